/- OCm OOf -/
import Derived.Test.YtjffpimfngdggaaGreatTk
import Derived.Test.YtjffpimfngdggaaGreatFe13
import Derived.Laws.StructEq
import Derived.Shelf.SlicesQ.Reverse
import Derived.Lib.OwnBridge
import Derived.Deep.LoopGhost
import Derived.Lib.SlicesCompact
import Derived.Lib.QuietBelow
import Derived.Test.YtjffpimfngdggaaGreatFe16
import Derived.Test.YtjffpimfngdggaaGreatFe08
import Derived.Deep.RegionHeldLaw
set_option maxRecDepth 100000
set_option maxHeartbeats 8000000
namespace Go.Proofs.YtjffpimfngdggaaGreat
section
open Go.RowKit Go.Sort Go.Lib
attribute [local go_sem ↓] zV zU
structure Kd (w w':World) (g:Nat):Prop where
 os:w'.os=w.os
 tape:w'.tape=w.tape
 output:w'.output=w.output
 size:w.heap.size <= w'.heap.size
 block:∀ k,k < w.heap.size -> k≠g -> w'.heap[k]? = w.heap[k]?
theorem Kd.refl (w:World) (g:Nat):Kd w w g:=⟨rfl,rfl,rfl,Nat.le_refl _,fun _ _ _=>rfl⟩
theorem Kd.of_below {w w':World} {g:Nat} (h:Below w.heap.size w w'):Kd w w' g:=⟨h.os,h.tape,h.output,h.size,fun k hk _=>h.block k hk⟩
theorem Kd.trans {w w' w2:World} {g:Nat} (h:Kd w w' g) (k:Kd w' w2 g):Kd w w2 g:=⟨k.os.trans h.os,k.tape.trans h.tape,k.output.trans h.output,Nat.le_trans h.size k.size,fun j hj hn=>(k.block j (Nat.lt_of_lt_of_le hj h.size) hn).trans (h.block j hj hn)⟩
theorem Kd.below {w w' w0:World} {g B:Nat} (b:Below B w0 w) (h:Kd w w' g) (hg:B <= g) (hB:B <= w.heap.size):Below B w0 w':=⟨h.os.trans b.os,h.tape.trans b.tape,h.output.trans b.output,Nat.le_trans b.size h.size,fun k hk=>(h.block k (by omega) (by omega)).trans (b.block k hk)⟩
def eqD (x y:Rn):Bool:=x.lo == y.lo && x.hi == y.hi
theorem kr (x y:Rn):eqD x y=true↔x=y:=by
 obtain ⟨a,b⟩:=x;obtain ⟨c,d⟩:=y;simp [eqD]
theorem xP (x y:Rn) (w:World):(Op.equalIn 10000 48 (.agg (RC x)) (.agg (RC y))).run Tryz.prog w = .ok (eqD x y) w:=by
 have u3:=Tryz.underlying3;have a3:=Tryz.isAgg3;have z3:=Tryz.sizeOf3
 have hS:Tryz.prog.underlying 48=some (.struct (Tryz.prog.fieldsOf 48)):=by kernel_rfl
 have hp:Tryz.prog.stoodInHeld 48=false:=by kernel_rfl
 show (Op.equalIn 10000 48 (.agg #[.int .i64 x.lo,.int .i64 x.hi]) (.agg #[.int .i64 y.lo,.int .i64 y.hi])).run Tryz.prog w=_
 rw [show (10000:Nat)=9999+1 from rfl,run_equalIn_struct w 9999 48 _ _ hS hp];simp only [Program.fieldsOf,Tryz.underlying48];go_simp;unfold eqD;by_cases h1:x.lo=y.lo <;> by_cases h2:x.hi=y.hi <;> simp [h1,h2]
theorem MR.on {W W':World} {ad:Addr} {d:Array Rn} (M:MR W ad d) (hb:Below W.heap.size W W'):MR W' ad d:=
 ⟨fun j hj=>by rw [hb.cell (p:=⟨ad.block,0+j,none⟩) M.lt,hb.frozen (p:=⟨ad.block,0+j,none⟩) M.lt];exact M.hk j hj,Nat.lt_of_lt_of_le M.lt hb.size,M.ha⟩
theorem kT (d:Array Rn) (i:Nat) (e:Rn) (hi:i < d.size):setMany (flatK cM 2 d) (i * 2) (cM e)=flatK cM 2 (d.setIfInBounds i e):=by
 refine ext_get! (by simp) fun t ht=>?_
 have tf:t < d.size * 2:=by simpa using ht
 rw [get_setMany _ _ _ t (by simpa using tf),get_flatK _ _ _ t tf,get_flatK _ _ _ t (by simpa using tf),wj];by_cases a:t / 2=i
 ·rw [if_pos ((blk_iff 2 i t (by omega)).2 a),a,getElem!_set_same d i e hi,show t - i * 2=t % 2 by omega]
 ·rw [if_neg (fun h=>a ((blk_iff 2 i t (by omega)).1 h)),getElem!_set_other d i _ e a]
theorem zhy (W:World) (g:Nat) (F:Array Value):Kd W (putRow id W g 0 F) g:=⟨rfl,rfl,rfl,by simp [putRow,mapBlock],fun k _ hn=>by simp [putRow,mapBlock,Array.getElem?_modify,show ¬ g=k from fun e=>hn e.symm]⟩
theorem MR.setCells {W:World} {ad:Addr} {d:Array Rn} (M:MR W ad d) (i:Nat) (e:Rn) (hi:i < d.size) :
  W.setCells ad.block (i * 2) (cM e)=putRowK cM 2 W ad.block 0 (d.setIfInBounds i e):=by
 have h1:=putRowK_self cM 2 W ad.block 0 d M.hk;have h2:=setCells_putRow W ad.block 0 (cM e) (i * 2) (flatK cM 2 d) (by rw [wj,size_flatK];have:=Nat.mul_le_mul_right 2 (show i+1 <= d.size from hi);omega);unfold putRowK at h1;rw [h1,kT d i e hi,Nat.zero_add] at h2;exact h2
theorem MR.store {W:World} {ad:Addr} {d:Array Rn} (M:MR W ad d) (i:Nat) (e:Rn) (hi:i < d.size) :
  ∃ W':World,(stD (.pointer (some (ad.add (i * 2)))) (RV e)).run Tryz.prog W = .ok () W'/\MR W' ad (d.setIfInBounds i e)/\Kd W W' ad.block/\W'.heap.size=W.heap.size:=by
 have hs:=stores_of_holds Tryz.prog (W:=W) (blk:=ad.block) (off:=0) (F:=flatK cM 2 d) M.hk (i * 2) (cM e) (by rw [wj,size_flatK];have:=Nat.mul_le_mul_right 2 (show i+1 <= d.size from hi);omega) (jX e);rw [Nat.zero_add,M.setCells i e hi] at hs;refine ⟨_,?_,⟨holdsK_putRowK cM 2 W ad.block 0 d _ M.hk (by simp),by show ad.block < (putRow id W ad.block 0 _).heap.size;rw [size_putRow];exact M.lt,M.ha⟩,zhy W ad.block _,size_putRow _ _ _ _ _⟩;have ha:=M.ha;rw [ha,Addr.add_lit,Nat.zero_add];unfold stD
 cases hq:Tryz.prog.info? 48 with
 | none=>have:=lI;simp [hq] at this
 | some x =>
  have hz:x.size=2:=by have:=lI;simpa [hq] using this
  have Ip:(storeCells ⟨ad.block,i * 2,none⟩ (RC e).toList 0).run Tryz.prog W = .ok () (putRowK cM 2 W ad.block 0 (d.setIfInBounds i e)):=hs;simp only [Instr.storeAt,Instr.sureAddr,Sem.run_bind,Sem.run_pure,Result.andThen,storeVar,sizeOf,typeInfo,zC,zN];simp [Ip,hq,hz]
theorem kU (d:Array Rn):∀ (xs:List Rn) (i:Nat),i+xs.length <= d.size -> setMany (flatK cM 2 d) (i * 2) (xs.map cM).flatten=flatK cM 2 (Lib.lay d i xs)
 | [],_,_=>rfl
 | x :: r,i,h=>by
  have hi:i < d.size:=by simp at h;omega
  have key:∀ (F:Array Value) (s:Nat) (a b:List Value),setMany F s (a++b)=setMany (setMany F s a) (s+a.length) b:=by
   intro F s a
   induction a generalizing F s with
   | nil=>intro b;rfl
   | cons v a ih=>intro b;simp only [List.cons_append,setMany,List.length_cons];rw [ih,show s+1+a.length=s+(a.length+1) by omega]
  rw [List.map_cons,List.flatten_cons,key,kT d i x hi,wj,show i * 2+2=(i+1) * 2 by omega];exact kU (d.setIfInBounds i x) r (i+1) (by simp at h ⊢;omega)
theorem tR (w:World):(zeroValue 48).run Tryz.prog w = .ok (RV rn0) w:=Tryz.zeroValue48 w
theorem rI (n:Nat):(Builtin.zeroCells (RC rn0) n).toList=((List.replicate n rn0).map cM).flatten:=by
 show _=rcs (List.replicate n rn0)
 apply List.ext_getElem?;intro t;by_cases ht:t < n * 2
 ·have h2:=wT (List.replicate n rn0) (t / 2) (t % 2) (by simp;omega) (by omega);rw [show t / 2 * 2+t % 2=t by omega] at h2
  have hg:(List.replicate n rn0).getD (t / 2) rn0=rn0:=by simp [List.getD,show t / 2 < n by omega]
  rw [h2,hg]
  have h1:(Builtin.zeroCells (RC rn0) n).toList[t]? = some ((RC rn0)[t % 2]!):=by simp [Builtin.zeroCells,zN,ht]
  rw [h1]
  have:t % 2=0∨t % 2=1:=by omega
  rcases this with h | h <;> rw [h] <;> rfl
 ·rw [List.getElem?_eq_none (by simp [Builtin.zeroCells,zN];omega),List.getElem?_eq_none (by rw [qt];simp;omega)]
theorem kO (d:Array Rn):∀ (xs:List Rn) (k:Nat),(Lib.lay d k xs).size=d.size:=by
 intro xs
 induction xs generalizing d with
 | nil=>intro k;rfl
 | cons x r ih=>intro k;rw [Lib.lay,ih];simp
theorem MR.clear {W:World} {ad:Addr} {d:Array Rn} (M:MR W ad d) (kk:Nat) (hk:kk < d.size) (c:Nat) :
  ∃ (W':World) (d':Array Rn),(∀ ty,(Builtin.clear_ #[32] ty #[.slice (some (ad.add (kk * 2))) (d.size - kk) c]).run Tryz.prog W = .ok (.tuple #[]) W')/\MR W' ad d'/\d'.size=d.size/\(∀ j,j < kk -> d'[j]! = d[j]!)/\Kd W W' ad.block/\W'.heap.size=W.heap.size:=by
 obtain ⟨m,hm⟩:∃ m,d.size - kk=m:=⟨_,rfl⟩;have h1:=putRowK_self cM 2 W ad.block 0 d M.hk
 have cF:(((List.replicate m rn0).map cM).flatten).length=m * 2:=by
  have:=qt (List.replicate m rn0);rwa [List.length_replicate] at this
 have hs:=stores_of_holds Tryz.prog (W:=W) (blk:=ad.block) (off:=0) (F:=flatK cM 2 d) M.hk (kk * 2) ((List.replicate m rn0).map cM).flatten (by rw [cF,size_flatK];omega) (by
  intro v hv;obtain ⟨l,hl,hv⟩:=List.mem_flatten.1 hv;obtain ⟨e,_,rfl⟩:=List.mem_map.1 hl
  exact jX e v hv)
 have h2:=setCells_putRow W ad.block 0 ((List.replicate m rn0).map cM).flatten (kk * 2) (flatK cM 2 d) (by rw [cF,size_flatK];omega);unfold putRowK at h1;rw [h1,kU d (List.replicate m rn0) kk (by simp;omega),Nat.zero_add] at h2;rw [Nat.zero_add,h2] at hs;refine ⟨_,Lib.lay d kk (List.replicate m rn0),fun ty=>?_,⟨holdsK_putRowK cM 2 W ad.block 0 d _ M.hk (kO _ _ _),by show ad.block < (putRow id W ad.block 0 _).heap.size;rw [size_putRow];exact M.lt,M.ha⟩,kO _ _ _,fun j hj=>?_,zhy W ad.block _,size_putRow _ _ _ _ _⟩
 ·have ha:=M.ha;rw [ha,Addr.add_lit,Nat.zero_add,hm];obtain ⟨m',rfl⟩:∃ m',m=m'+1:=⟨m - 1,by omega⟩;have hz:=tR W;simp [Builtin.clear_,run_underlying Tryz.underlying32,hz];rw [zC,rI,hs];rfl
 ·have:=Lib.lay_get? (List.replicate m rn0) d kk j (by simp;omega);rw [if_neg (by omega)] at this;rw [getElem!_def,getElem!_def,this]
attribute [local go_sem ↓] xP
attribute [local go_sem] zS zC zN
def clD (a:Value):Sem Value:=Builtin.clear_ #[32] 0 #[a]
theorem zjb (a:Value):Builtin.clear_ #[32] 0 #[a]=clD a:=rfl
attribute [local go_sem ↓] zjb
def dL (w w':World) (e:Ending) (ad:Addr) (cap:Nat) (d:Array Rn):Prop:=
 ∃ k d',e = .returned (.slice (some ad) k cap)/\MR w' ad d'/\k <= d.size/\d'.size=d.size/\d'.toList.take k=compactUpTo d d.size/\Kd w w' ad.block
theorem xY {w w':World} {ad:Addr} {cap n:Nat} {d:Array Rn} (hn:d.size=n) (M:MR w' ad d) (hb:Kd w w' ad.block) (aR:∀ j,j < d.size -> keeps d j=true):dL w w' (.returned (.slice (some ad) n cap)) ad cap d:=
 ⟨n,d,rfl,M,by omega,rfl,by rw [compactUpTo_all d _ aR,range_map_get,List.take_of_length_le (by simp;omega)],hb⟩
theorem zar {d dk d':Array Rn} {n kk:Nat} (hI:CompInv d n kk dk) (hn:d.size=n) (hs:d'.size=dk.size) (hl:∀ j,j < kk -> d'[j]! = dk[j]!):d'.toList.take kk=compactUpTo d d.size:=by
 rw [hn];have nh:=hI.lt;have dP:=hI.size;apply List.ext_getElem?;intro j;by_cases hj:j < kk
 ·rw [hI.low j hj,<- hl j hj,List.getElem?_take,if_pos hj,Array.getElem?_toList,Array.getElem?_eq_getElem (by omega),getElem!_pos d' j (by omega)]
 ·rw [List.getElem?_eq_none (by rw [List.length_take];omega),List.getElem?_eq_none (by rw [hI.len];omega)]
theorem ks (ad:Addr) (cap n:Nat) (d:Array Rn) (w:World) (M:MR w ad d) (hn:d.size=n) (hb:n <= 8796093022207) (mE:n <= cap) (eV:cap <= 9223372036854775807) :
  Calls Tryz.prog 154 #[.slice (some ad) n cap] w fun e w'=>dL w w' e ad cap d:=by
 have HM:=hide M;have HN:=hide hn;clear M hn;by_cases h2:n < 2
 ·have HF:Hid (dL w w (.returned (.slice (some ad) n cap)) ad cap d):=xY HN.out HM.out (Kd.refl _ _) (fun j hj=>keeps_lt_one d j (by have:=HN.out;omega));go_enter Tryz.func154,Tryz.ntmps154;go_wp2_with fail;go_ret;exact HF.out
 ·go_enter Tryz.func154,Tryz.ntmps154;go_wp2_with fail;go_loopg [3] n (fun g s wr=>∃ k:Nat,1 <= k/\k <= n/\n - k <= g/\s = .int .i64 k/\Hid (Below w.heap.size w wr/\∀ j,j < k -> keeps d j=true))
  case atStart=>exact ⟨1,Nat.le_refl _,by omega,by omega,rfl,Below.refl _ _,keeps_lt_one d⟩
  case round =>
   obtain ⟨k,gY,hk,hg,rfl,H⟩:=hrel
   rename World=>w4
   have lh:=hide (HM.out.on H.out.1);by_cases ak:k < n
   ·obtain ⟨j,hj⟩:∃ j,k - 1=j:=⟨_,rfl⟩
    have hz:IntKind.i64.wrap ((k:Int) - 1)=(j:Int):=by rw [IntKind.wrap_i64];omega
    have od:j < n:=by omega
    have A0:=hide (lh.out.at k (by rw [HN.out];exact ak));have A1:=hide (lh.out.at j (by rw [HN.out];exact od));obtain ⟨x,Hx⟩:∃ x,Hid (d[k]! = x):=⟨_,rfl⟩;obtain ⟨y,Hy⟩:∃ y,Hid (d[j]! = y):=⟨_,rfl⟩;rw [Hx.out] at A0;rw [Hy.out] at A1;have Hj:=hide hj;clear hj;have l0:∀ d os,(ldD (.pointer (some (ad.add (k * 2))))).run Tryz.prog (Sort.grow (redrawn w4 d) os) = .ok (RV x) (Sort.grow (redrawn w4 d) os):=fun d os=>zG (A0.out.on (below_regrown w4 d os));have l1:∀ d os,(ldD (.pointer (some (ad.add (j * 2))))).run Tryz.prog (Sort.grow (redrawn w4 d) os) = .ok (RV y) (Sort.grow (redrawn w4 d) os):=fun d os=>zG (A1.out.on (below_regrown w4 d os));obtain ⟨q,hq⟩:∃ q,eqD x y=q:=⟨_,rfl⟩
    cases q with
    | false =>
     have HK:Hid (keeps d k=true):=keeps_pos (by rw [Hj.out,Hx.out,Hy.out];intro h;rw [(kr x y).2 h] at hq;cases hq);go_wp2_with fail;refine wp_region_quiet_below (by kernel_rfl) (by kernel_rfl) ?_
     repeat (with_reducible (refine wpQuiet_step ?_);intro K hK;go_simp;(try rw [if_neg (by unfold undef;simp)]);first | (with_reducible (refine hK _ ?_);clear hK K) | (apply Exists.intro;refine ⟨fun _=>?_,hK _ ?_⟩;(fail);clear hK K))
     with_reducible (refine wpQuiet_nil ?_)
     intro w5 hw';obtain ⟨⟨dq,osq⟩,hw''⟩:=hw'
     have b5:Below w4.heap.size w4 w5:=by rw [hw''];exact below_regrown w4 dq osq
     clear hw'' dq osq
     have H5:Hid (Below w.heap.size w w5/\∀ j,j < k+1 -> keeps d j=true):=⟨H.out.1.trans (b5.mono H.out.1.size),fun i hi=>by
      by_cases e:i=k
      ·rw [e];exact HK.out
      ·exact H.out.2 i (by omega)⟩
     clear b5 l0 l1;go_wp2_with fail;go_roundg (n - (k+1))
     case measure=>omega
     case rel=>exact ⟨k+1,by omega,by omega,Nat.le_refl _,by go_num,H5⟩
    | true =>
     have HK:Hid (keeps d k=false):=keeps_neg (by omega) (by rw [Hj.out,Hx.out,Hy.out];exact (kr x y).1 hq);go_wp2_with fail;refine wp_region_quiet_below (by kernel_rfl) (by kernel_rfl) ?_
     repeat (with_reducible (refine wpQuiet_step ?_);intro K hK;go_simp;(try rw [if_neg (by unfold undef;simp)]);first | (with_reducible (refine hK _ ?_);clear hK K) | (apply Exists.intro;refine ⟨fun _=>?_,hK _ ?_⟩;(fail);clear hK K))
     with_reducible (refine wpQuiet_nil ?_)
     intro w5 hw';obtain ⟨⟨dq,osq⟩,hw''⟩:=hw'
     have b5:Below w4.heap.size w4 w5:=by rw [hw''];exact below_regrown w4 dq osq
     clear hw'' dq osq;have C9:=hide (lh.out.on b5);have dO:Hid (Kd w w5 ad.block):=(Kd.of_below H.out.1).trans (Kd.of_below b5);have po:Hid (CompInv d (k+1) k d):=CompInv.start H.out.2 HK.out;clear b5 l0 l1 hq;go_wp2_with fail;go_loopg [3,5] n (fun g s3 s5 wr=>∃ (kk k2:Nat) (dk:Array Rn),1 <= k2/\k+k2 <= n/\kk < n/\n - (k+k2) <= g/\s3 = .int .i64 kk/\s5 = .int .i64 k2/\Hid (MR wr ad dk/\CompInv d (k+k2) kk dk/\Kd w wr ad.block))
     case atStart=>exact ⟨k,1,d,Nat.le_refl _,by omega,ak,by omega,rfl,rfl,C9.out,po.out,dO.out⟩
     case round =>
      obtain ⟨kk,k2,dk,oq,Cf,nh,mC,rfl,rfl,HI⟩:=hrel
      rename World=>w6
      clear C9 po dO lh A0 A1;have HD:Hid (dk.size=n):=HI.out.2.1.size.trans HN.out;by_cases hlt2:k2 < n - k
      ·obtain ⟨j2,IQ⟩:∃ j2,k2 - 1=j2:=⟨_,rfl⟩
       have ee:IntKind.i64.wrap ((k2:Int) - 1)=(j2:Int):=by rw [IntKind.wrap_i64];omega
       have Ho:j2 < n - k:=by omega
       have A0:=hide (HI.out.1.at (k+k2) (by rw [HD.out];omega));have A1:=hide (HI.out.1.at (k+j2) (by rw [HD.out];omega));have IC:=HI.out.2.1.lt;obtain ⟨u,Hu⟩:∃ u,Hid (d[k+k2]! = u):=⟨_,rfl⟩;obtain ⟨v,Hv⟩:∃ v,Hid (d[k+j2]! = v):=⟨_,rfl⟩;rw [HI.out.2.1.high (k+k2) (by omega),Hu.out,Nat.add_mul,<- qC] at A0;rw [HI.out.2.1.high (k+j2) (by omega),Hv.out,Nat.add_mul,<- qC] at A1
       have Du:Hid (k+k2 - 1=k+j2):=by show _=_;omega
       clear IQ;have l0:∀ d os,(ldD (.pointer (some ((ad.add (k * 2)).add (k2 * 2))))).run Tryz.prog (Sort.grow (redrawn w6 d) os) = .ok (RV u) (Sort.grow (redrawn w6 d) os):=fun d os=>zG (A0.out.on (below_regrown w6 d os));have l1:∀ d os,(ldD (.pointer (some ((ad.add (k * 2)).add (j2 * 2))))).run Tryz.prog (Sort.grow (redrawn w6 d) os) = .ok (RV v) (Sort.grow (redrawn w6 d) os):=fun d os=>zG (A1.out.on (below_regrown w6 d os));obtain ⟨q2,oZ⟩:∃ q2,eqD u v=q2:=⟨_,rfl⟩
       cases q2 with
       | true =>
        have fj:Hid (CompInv d (k+k2+1) kk dk):=HI.out.2.1.skip (keeps_neg (by omega) (by rw [Du.out,Hu.out,Hv.out];exact (kr u v).1 oZ));go_wp2_with fail;refine wp_region_quiet_below (by kernel_rfl) (by kernel_rfl) ?_
        repeat (with_reducible (refine wpQuiet_step ?_);intro K hK;go_simp;(try rw [if_neg (by unfold undef;simp)]);first | (with_reducible (refine hK _ ?_);clear hK K) | (apply Exists.intro;refine ⟨fun _=>?_,hK _ ?_⟩;(fail);clear hK K))
        with_reducible (refine wpQuiet_nil ?_)
        intro w7 hw';obtain ⟨⟨dq,osq⟩,hw''⟩:=hw'
        have b7:Below w6.heap.size w6 w7:=by rw [hw''];exact below_regrown w6 dq osq
        clear hw'' dq osq;have H7:Hid (MR w7 ad dk/\CompInv d (k+(k2+1)) kk dk/\Kd w w7 ad.block):=⟨HI.out.1.on b7,fj.out,HI.out.2.2.trans (Kd.of_below b7)⟩;clear b7 l0 l1;go_wp2_with fail;go_roundg (n - (k+(k2+1)))
        case measure=>omega
        case rel=>exact ⟨kk,k2+1,dk,by omega,by omega,nh,Nat.le_refl _,rfl,by go_num,H7⟩
       | false =>
        have fj:Hid (CompInv d (k+k2+1) (kk+1) (dk.setIfInBounds kk u)):=by
         have:=HI.out.2.1.keep (by rw [HN.out];omega) (keeps_pos (by rw [Du.out,Hu.out,Hv.out];intro h;rw [(kr u v).2 h] at oZ;cases oZ));rwa [Hu.out] at this
        go_wp2_with fail;refine wp_region_quiet_below (by kernel_rfl) (by kernel_rfl) ?_
        repeat (with_reducible (refine wpQuiet_step ?_);intro K hK;go_simp;(try rw [if_neg (by unfold undef;simp)]);first | (with_reducible (refine hK _ ?_);clear hK K) | (apply Exists.intro;refine ⟨fun _=>?_,hK _ ?_⟩;(fail);clear hK K))
        with_reducible (refine wpQuiet_nil ?_)
        intro w7 hw';obtain ⟨⟨dq,osq⟩,hw''⟩:=hw'
        have b7:Below w6.heap.size w6 w7:=by rw [hw''];exact below_regrown w6 dq osq
        clear hw'' dq osq;have l7:=zG (A0.out.on b7);obtain ⟨w8,a8,M8,B8,_⟩:=(HI.out.1.on b7).store kk u (by rw [HD.out];exact nh);have H8:Hid (MR w8 ad (dk.setIfInBounds kk u)/\CompInv d (k+(k2+1)) (kk+1) (dk.setIfInBounds kk u)/\Kd w w8 ad.block):=⟨M8,fj.out,(HI.out.2.2.trans (Kd.of_below b7)).trans B8⟩;clear b7 l0 l1 M8 B8;go_wp2_with fail;go_roundg (n - (k+(k2+1)))
        case measure=>omega
        case rel=>exact ⟨kk+1,k2+1,dk.setIfInBounds kk u,by omega,by omega,by omega,Nat.le_refl _,by go_num,by go_num,H8⟩
      ·have Ar:k+k2=n:=by omega
       obtain ⟨w7,d',fC,M7,sZ,El,B7,_⟩:=HI.out.1.clear kk (by rw [HD.out];exact nh) (cap - kk);rw [HD.out] at fC;have GN:(clD (.slice (some (ad.add (kk * 2))) (n - kk) (cap - kk))).run Tryz.prog w6 = .ok (.tuple #[]) w7:=fC 0
       have HF:Hid (dL w w7 (.returned (.slice (some ad) kk cap)) ad cap d):=by
        have hI:=HI.out.2.1;rw [Ar] at hI;exact ⟨kk,d',rfl,M7,by rw [HN.out];omega,sZ.trans hI.size,zar hI HN.out sZ El,HI.out.2.2.trans B7⟩
       clear fC M7 sZ El B7;go_wp2_with fail;go_ret;exact HF.out
   ·have HF:Hid (dL w w4 (.returned (.slice (some ad) n cap)) ad cap d):=xY HN.out lh.out (Kd.of_below H.out.1) (fun j hj=>H.out.2 j (by have:=HN.out;omega));go_wp2_with fail;go_ret;exact HF.out
end
section
open Go.RowKit Go.Lib
attribute [local go_sem ↓] zq zp vM vJ zV zU
attribute [local go_sem] x6 xj zE zi qm zj
def okD (d:Rn):Bool:=V.isR d.lo && (decide (1 <= d.hi) && decide (d.hi <= 1000000000))
def cr (C:List Rn) (r:Nat):List Rn:=(C.filter (fun d=>okD d && decide (d.lo=(r:Int)))).map (fun d=>⟨d.hi,d.hi⟩)
theorem yW (C:List Rn) (d:Rn) (r:Nat):cr (C++[d]) r=if (okD d && decide (d.lo=(r:Int)))=true then cr C r++[⟨d.hi,d.hi⟩] else cr C r:=by
 unfold cr;rw [List.filter_append];by_cases h:(okD d && decide (d.lo=(r:Int)))=true
 ·rw [if_pos h,List.filter_cons_of_pos (p:=fun d:Rn=>okD d && decide (d.lo=(r:Int))) h];simp
 ·rw [if_neg h,List.filter_cons_of_neg (p:=fun d:Rn=>okD d && decide (d.lo=(r:Int))) h];simp
theorem zbl (C:List Rn) (r:Nat):(cr C r).length <= C.length:=by unfold cr;rw [List.length_map];exact List.length_filter_le _ _
theorem xW (C:List Rn) (r:Nat) (n:Int):mem (cr C r) n↔∃ d∈C,okD d=true/\d.lo=(r:Int)/\d.hi=n:=by
 unfold mem cr;constructor
 ·rintro ⟨h1,h2,x,hx,h3,h4⟩;obtain ⟨d,hd,rfl⟩:=List.mem_map.1 hx;obtain ⟨tg,uq⟩:=List.mem_filter.1 hd;simp only [Bool.and_eq_true,decide_eq_true_eq] at uq;simp only at h3 h4;exact ⟨d,tg,uq.1,uq.2,by omega⟩
 ·rintro ⟨d,hd,h1,h2,rfl⟩;have h3:=h1;unfold okD at h3;simp only [Bool.and_eq_true,decide_eq_true_eq] at h3;exact ⟨h3.2.1,h3.2.2,⟨d.hi,d.hi⟩,List.mem_map.2 ⟨d,List.mem_filter.2 ⟨hd,by simp [h1,h2]⟩,rfl⟩,Int.le_refl _,Int.le_refl _⟩
theorem zcd {G G':Nat -> List Rn} {P:Pst} (h:af G P) (e:∀ r,r < 16 -> ∀ n,mem (G r) n↔mem (G' r) n):af G' P:=by
 obtain ⟨N,hN,hP⟩:=h;exact ⟨N,fun r hr=>⟨(hN r hr).1,fun n=>((hN r hr).2 n).trans (e r hr n)⟩,hP⟩
theorem zgS (d:Array Rn):(compactUpTo d d.size).Sublist d.toList:=by
 have h:(compactUpTo d d.size).Sublist ((List.range d.size).map (d[·]!)):=List.filter_sublist.map _;rwa [range_map_get] at h
theorem zhe (d:Array Rn) (i:Nat) (h:i < d.size):d[i]! = d[i]:=getElem!_pos d i h
theorem zgT (d:Array Rn) (m:Nat):m <= d.size -> ∀ j,j < m -> d[j]! ∈ compactUpTo d m:=by
 induction m with
 | zero=>intro _ j hj;omega
 | succ m ih =>
  intro hm j hj;rw [compactUpTo_succ];by_cases e:j=m
  ·subst e;by_cases hk:keeps d j=true
   ·rw [if_pos hk];simp
   ·rw [if_neg hk,List.append_nil]
    have i6:¬ (j=0∨d[j]! ≠ d[j - 1]!):=by simpa [keeps] using hk
    have h0:¬ j=0:=fun h=>i6 (Or.inl h);have h1:d[j]! = d[j - 1]! := Classical.byContradiction fun h=>i6 (Or.inr h);rw [h1];exact ih (by omega) (j - 1) (by omega)
  ·exact List.mem_append_left _ (ih (by omega) j (by omega))
theorem zgU (d:Array Rn) (x:Rn):x∈compactUpTo d d.size↔x∈d.toList:=by
 constructor
 ·exact fun h=>(zgS d).mem h
 ·intro h;obtain ⟨i,hi,rfl⟩:=List.mem_iff_getElem.1 h
  have i9:i < d.size:=by simpa using hi
  have:=zgT d d.size (Nat.le_refl _) i i9;rw [zhe d i i9] at this;simpa using this
structure SI3 (B:Nat) (wb W:World) (F:Nat -> Sl) (G:Nat -> List Rn):Prop where
 s:cG W B F
 o:cY (B+1) W F
 l:∀ r,r < 16 -> (F r).L=G r
 b:Below B wb W
 h:B+1 <= W.heap.size
theorem SI3.on {B:Nat} {wb W W':World} {F:Nat -> Sl} {G:Nat -> List Rn} (I:SI3 B wb W F G) (hb:Below W.heap.size W W'):SI3 B wb W' F G:=
 ⟨I.s.below hb,I.o.below hb,I.l,I.b.trans (hb.mono (by have:=I.h;omega)),Nat.le_trans I.h hb.size⟩
theorem SI3.congr {B:Nat} {wb W:World} {F:Nat -> Sl} {G G':Nat -> List Rn} (I:SI3 B wb W F G) (h:∀ r,r < 16 -> G r=G' r):SI3 B wb W F G':=
 ⟨I.s,I.o,fun r hr=>(I.l r hr).trans (h r hr),I.b,I.h⟩
theorem SI3.mid {B:Nat} {wb W w2:World} {F F':Nat -> Sl} {G:Nat -> List Rn} (I:SI3 B wb W F G) (h2:∀ q,q < W.heap.size -> Off F q -> w2.heap[q]? = W.heap[q]? /\ Off F' q):cG w2 B F:=
 ((h2 _ (by have:=I.h;omega) (I.o.off _ (Or.inl (by omega)))).1).trans I.s
theorem SI3.push {B:Nat} {wb W w2:World} {F:Nat -> Sl} {G:Nat -> List Rn} (I:SI3 B wb W F G) (k:Nat) (_:k < 16) (e:Rn) (n cap2 g:Nat)
  (O2:cY (B+1) w2 (eN F k ⟨some ⟨g,0,none⟩,n+1,cap2,(F k).L++[e]⟩)) (h2:∀ q,q < W.heap.size -> Off F q -> w2.heap[q]? = W.heap[q]? /\ Off (eN F k ⟨some ⟨g,0,none⟩,n+1,cap2,(F k).L++[e]⟩) q) (h3:W.heap.size < w2.heap.size) (h4:∀ n0 w0,n0 <= B+1 -> Below n0 w0 W -> Below n0 w0 w2) (v:Value) (hv:v = .slice (some ⟨g,0,none⟩) (n+1) cap2) :
  SI3 B wb (w2.setCell ⟨B,k,none⟩ v) (eN F k ⟨some ⟨g,0,none⟩,n+1,cap2,(F k).L++[e]⟩) (fun r=>if r=k then G r++[e] else G r):=by
 have hh:=I.h
 have other:∀ q,q≠B -> (w2.setCell ⟨B,k,none⟩ v).heap[q]? = w2.heap[q]?:=fun q hq=>by
  simp [World.setCell,Array.getElem?_modify,show ¬ B=q by omega]
 refine ⟨(I.mid h2).set k _ v hv,O2.kept (fun q hq fw=>other q (fun e=>fw ?_)),fun r hr=>?_,?_,?_⟩
 ·rw [e];exact O2.off _ (Or.inl (by omega))
 ·by_cases h:r=k
  ·subst h;rw [xD,if_pos rfl,<- I.l r hr]
  ·rw [qE _ _ _ _ h,if_neg h,<- I.l r hr]
 ·exact V.qg (h4 _ _ (by omega) I.b) (by simp)
 ·have:(w2.setCell ⟨B,k,none⟩ v).heap.size=w2.heap.size:=by simp [World.setCell]
  omega
theorem zdK (w:World):Calls Tryz.prog 151 #[.slice none 0 0] w fun e w'=>e = .returned (.slice none 0 0)/\w'=w:=by
 have ei:(binOp .eql 32 (.slice none 0 0) (.slice none 0 0)).run Tryz.prog w = .ok (.bool true) w:=Lib.run_eql_slice_nil_nil w 0 0 Tryz.underlying32;go_enter Tryz.func151,Tryz.ntmps151;go_wp2_with fail;go_ret;exact ⟨rfl,rfl⟩
theorem Bo (ao:Option Addr) (cap:Nat) (w:World):Calls Tryz.prog 152 #[.slice ao 0 cap,.func (.func 153) #[] #[]] w fun e w'=>e = .returned (.tuple #[])/\w'=w:=AnyF.slices_SortFunc_none Tryz.sortD ao cap _ w
theorem zdM (ao:Option Addr) (n c:Nat) (D:List Rn) (w:World) (hS:aX w ao n c D) :
  Calls Tryz.prog 151 #[.slice ao n c] w fun e w'=>∃ ao c',e = .returned (.slice ao n c')/\fd w.heap.size w.heap.size w w' ao c' D:=by
 cases ao with
 | some ad=>exact zdL ad n c D w hS
 | none =>
  obtain ⟨rfl,rfl⟩:=hS.nil rfl;obtain rfl:D=[]:=List.eq_nil_of_length_eq_zero hS.len;refine (zdK w).mono ?_;rintro e w' ⟨rfl,rfl⟩;exact ⟨none,0,rfl,World.ownsRow_nil _ _ _ _,Below.refl _ _,Nat.le_refl _,Nat.le_refl _⟩
theorem wX (ao:Option Addr) (n c:Nat) (D:List Rn) (w:World) (hS:aX w ao n c D) :
  Calls Tryz.prog 101 #[.slice ao n c] w fun e w'=>cV w w' e (af (cr D)):=by
 have gI:=hide (ze w (.cells (PC pv0) 26));have ua:=hide (zr w pv0);have HS:=hide (hS.below gI.out);have HD:Hid (D.length=n/\n <= 8796093022207):=⟨hS.len,hS.big⟩;clear hS;go_enter Tryz.func101,Tryz.ntmps101;go_wp2_with fail;refine (zdM ao n c D _ HS.out).mono ?_;rintro e w2 ⟨ao2,c2,rfl,O2⟩;have m6:=hide O2.below;have DX:=O2.below.size
 have Fy:Hid (w.heap.size+1 <= w2.heap.size):=by show _ <= _;simpa using DX
 clear HS DX;by_cases oW:n=0
 ·subst oW;obtain rfl:D=[]:=List.eq_nil_of_length_eq_zero HD.out.1;have cg:=wTr gI m6.out;have lR:=hide (ua.out.below m6.out);clear O2;go_wp2_with fail;refine (Bo ao2 c2 _).mono ?_;rintro e w3 ⟨rfl,rfl⟩
  rename World=>w3
  obtain ⟨B,hB⟩:∃ B,w3.heap.size=B:=⟨_,rfl⟩;have Id:SI3 w3.heap.size w3 (w3.alloc (.cells (SA fun _=>sl0) 136)) (fun _=>sl0) (cr []):=⟨jv w3 _,cY.nil _ _,fun r _=>rfl,ze w3 _,by simp⟩;obtain ⟨w4,uw⟩:∃ w4,w3.alloc (.cells (SA fun _=>sl0) 136)=w4:=⟨_,rfl⟩;rw [uw,hB] at Id;have HI:=hide Id;have fR:Hid (w3.heap.size=B):=hB;clear Id;go_wp2_with (go_at_call 154;refine (zbn _ 0 c2 _ (by omega)).mono ?_;rintro e w5 ⟨rfl,rfl⟩);clear uw hB;go_loopw [14] (fun i wr=>i = .int .i64 0/\wr=w5) (fun _ _=>0)
  case atStart=>exact ⟨rfl,rfl⟩
  case round =>
   obtain ⟨rfl,MA⟩:=hrel;subst MA
   rename World=>w4
   have l9:=wN HI.out.s;have nz:Hid (∀ r,r < 16 -> aX w4 ((fun _=>sl0) r:Sl).ao ((fun _=>sl0) r:Sl).n ((fun _=>sl0) r:Sl).cap ((fun _=>sl0) r:Sl).L):=fun r hr=>HI.out.o.src HI.out.h hr (by simp [sl0]);have b36:=hide HI.out.b;go_wp2_with fail;refine (qP (fun _=>sl0) _ nz.out).mono ?_;rintro e w8 ⟨p,rfl,S2,n2,b2,c2'⟩
   have b38:Below w3.heap.size w3 w8:=by rw [fR.out];exact b36.out.trans (b2.mono (by have:=HI.out.h;omega))
   obtain ⟨s1,e1,e2,e3,e4⟩:=qU (w:=w) (lR.out.below b38) S2 (n2.mono (by have:=HI.out.h;have:=fR.out;have:=Fy.out;omega)) (cg.out.trans (b38.mono cg.out.size)) (Nat.le_refl _);have dW:=hide e1;have lO:Hid (cV w (w8.setRow w.heap.size (PC p)) (.returned (PV p)) (af (cr []))):=⟨p,rfl,e2,e3,e4,c2'⟩;clear S2 n2 b2 c2' e1 e2 e3 e4 l9 b38;go_wp2_with fail;exact bodyPost_ret (v:=PV p) (eS Tryz.results101 rfl dW.out) rfl lO.out
 ·obtain ⟨ad2,rfl⟩:∃ ad2,ao2=some ad2:=by
   cases ao2 with
   | some x=>exact ⟨x,rfl⟩
   | none=>have h1:=(O2.src (by have:=HD.out;omega)).1.nil rfl;have h2:=HD.out;omega
  obtain ⟨M2,mS,pV,pR⟩:=O2.mr;have AO:=hide M2;have gL:=hide mS;have sf:Hid (n <= c2/\c2 <= maxLen):=⟨by have:=HD.out;omega,pR⟩;clear O2 M2 mS pV pR;go_wp2_with fail;refine (zd8 ad2 c2 n D.toArray _ AO.out (by simpa using HD.out.1) HD.out.2).mono ?_;rintro e w3 ⟨rfl,d',hp,hs,M3,b3⟩
  have Cp:w.heap.size+1 <= ad2.block:=by have:=gL.out;simpa using this
  have aB:=hide (gI.out.trans ((m6.out.trans (b3.mono gL.out)).mono gI.out.size));have Et:=hide (ua.out.below (m6.out.trans (b3.mono gL.out)));have K4:=hide M3;have C0:=hide Cp
  have FU:Hid (∀ x,x∈compactUpTo d' d'.size↔x∈D):=fun x=>by rw [zgU];have:=hp.mem_iff (a:=x);simpa using this
  obtain ⟨B,hB⟩:∃ B,w3.heap.size=B:=⟨_,rfl⟩;have Ic:=jv w3 (fun _=>sl0);have b34:=ze w3 (.cells (SA fun _=>sl0) 136);have s4:=World.size_alloc w3 (.cells (SA fun _=>sl0) 136);obtain ⟨w4,uw⟩:∃ w4,w3.alloc (.cells (SA fun _=>sl0) 136)=w4:=⟨_,rfl⟩;rw [uw] at Ic b34 s4;have M4:=M3.on b34;have HC:=hide (ks ad2 c2 n d' w4 M4 hs HD.out.2 sf.out.1 (by have:=sf.out.2;unfold maxLen at this;omega));have H4:Hid (cG w4 B (fun _=>sl0)/\Below w3.heap.size w3 w4/\w4.heap.size=B+1/\ad2.block < B/\w3.heap.size=B):=⟨hB ▸ Ic,b34,by rw [s4,hB],by have:=M3.lt;omega,hB⟩;clear hp M3 b3 AO gL m6 ua gI Cp Ic b34 s4 M4;go_wp2_with fail;clear uw hB;refine HC.out.mono ?_;rintro e w5 ⟨m,d5,rfl,M5,LQ,MP,K2,K5⟩;obtain ⟨C,FF⟩:∃ C,d5.toList.take m=C:=⟨_,rfl⟩
  have E9:Hid (C.length=m/\m <= 8796093022207/\∀ x,x∈C↔x∈D):=by
   refine ⟨?_,by have:=HD.out.2;omega,fun x=>?_⟩
   ·rw [<- FF,List.length_take];simp;omega
   ·rw [<- FF,K2];exact FU.out x
  have AD:Hid (∀ t,t < m -> gd w5 (ad2.add (t * 2)) (C.getD t rn0)):=fun t ht=>by
   have A:=M5.at t (by omega)
   have e:C.getD t rn0=d5[t]! := by
    rw [<- FF,List.getD_eq_getElem?_getD,List.getElem?_take,if_pos ht,Array.getElem?_toList,Array.getElem?_eq_getElem (by omega),getElem!_pos d5 t (by omega)];rfl
   rw [e];exact A
  have mZ:Hid (SI3 B w5 w5 (fun _=>sl0) (cr (C.take 0))):=by
   have h1:=H4.out;have hk:=K5.size;exact ⟨(K5.block B (by omega) (by omega)).trans h1.1,cY.nil _ _,fun r _=>rfl,Below.refl _ _,by omega⟩
  have MK:=hide K5;have ND:m <= 8796093022207:=E9.out.2.1;clear M5 LQ MP K2 FF K5 HC;go_wp2_with fail;go_loopw [14] (fun i wr=>∃ (k:Nat) (F:Nat -> Sl),k <= m/\i = .int .i64 (k:Int)/\Hid (SI3 B w5 wr F (cr (C.take k)))) (fun i _=>m - (intOf i).toNat)
  case atStart=>exact ⟨0,_,Nat.zero_le _,rfl,mZ⟩
  case round =>
   obtain ⟨k,F,hk,rfl,HI⟩:=hrel
   rename World=>w6
   clear mZ;by_cases ak:k < m
   ·have cL:(k:Int) < (m:Int):=by omega
    obtain ⟨dd,tj⟩:∃ dd,C.getD k rn0=dd:=⟨_,rfl⟩;have A5:=AD.out k ak;rw [tj] at A5
    have uG:(ad2.add (k * 2)).block < B:=by rw [zs];exact H4.out.2.2.2.1
    have A0:gd w6 (ad2.add (k * 2)) dd:=⟨(HI.out.b.cell uG).trans A5.c0,(HI.out.b.cell (by rw [zs];exact uG)).trans A5.c1⟩;have dK:=zG A0
    have HT:Hid (C.take (k+1)=C.take k++[dd]):=by
     show _=_
     rw [List.take_add_one,<- tj,List.getD_eq_getElem?_getD,List.getElem?_eq_getElem (by have:=E9.out.1;omega)];rfl
    obtain ⟨g7,fZ⟩:∃ g7,w6.heap.size=g7:=⟨_,rfl⟩;obtain ⟨w7,a8,XD,b7,z7⟩:=uM w6 dd g7 fZ;replace a8:(stD (.pointer (some ⟨g7,0,none⟩)) (RV dd)).run Tryz.prog (w6.alloc (.cells #[.int .i64 0,.int .i64 0] 48)) = .ok () w7:=a8
    have l7:=zG XD.at
    have sE:=hide XD;have KA:=hide (HI.out.on b7)
    have ts:Hid (Off F g7):=by rw [<- fZ];exact HI.out.o.off w6.heap.size (Or.inr (Nat.le_refl _))
    have pl:Hid (B+1 <= g7):=by rw [<- fZ];exact HI.out.h
    have Bk:Hid (k+1 <= m):=ak;clear A5 A0 XD b7 z7 HI ak hk uG tj;go_wp2_with fail;clear a8 fZ dK;refine (yS dd _).mono ?_;rintro e w8 ⟨rfl,b8⟩;have eU:=hide (KA.out.on b8);have fM:=hide (sE.out.below b8);obtain ⟨bb,sG⟩:∃ bb,(V.isR dd.lo && (decide (1 <= dd.hi) && decide (dd.hi <= 1000000000)))=bb:=⟨_,rfl⟩;have oj:Hid (okD dd=bb):=sG;rw [sG];clear b8 KA sE l7 sG
    cases bb with
    | false =>
     have HG:Hid (SI3 B w5 w8 F (cr (C.take (k+1)))):=eU.out.congr (fun r _=>by rw [HT.out,yW,oj.out];simp);go_wp2_with fail;go_roundw
     case rel=>exact ⟨k+1,F,Bk.out,by simp,HG.out⟩
     case measure=>simp [intOf];have:=Bk.out;omega
    | true =>
     obtain ⟨y,num,rfl,hy,sR⟩:∃ (y:Nat) (num:Int),dd=⟨(y:Int),num⟩/\y < 16/\True:=by
      have h:=oj.out;unfold okD at h;simp only [Bool.and_eq_true,V.isR,decide_eq_true_eq] at h;obtain ⟨lo,hi⟩:=dd;exact ⟨lo.toNat,hi,by simp only at h;congr 1;omega,by simp only at h;omega,trivial⟩
     have HG:Hid (∀ r,(if r=y then cr (C.take k) r++[⟨num,num⟩] else cr (C.take k) r)=cr (C.take (k+1)) r):=fun r=>by
      rw [HT.out,yW,oj.out];by_cases h:r=y
      ·subst h;simp
      ·rw [if_neg h,if_neg (by simp;omega)]
     have rZ:=hide fM.out.lt;have m0:=fM.out.at.c0;have m1:w8.cell? ⟨g7,1,none⟩=some (.int .i64 num):=fM.out.at.c1;dsimp only at m0
     have eW:Hid ((F y).n < 8796093022207):=by
      have h:=eU.out.o.len hy;rw [eU.out.l y hy] at h;have h2:=zbl (C.take k) y;rw [List.length_take] at h2
      show _ < _
      have:=Bk.out;omega
     have c1:=eU.out.s.cell y hy;obtain ⟨sa,sn,sc,hf⟩:∃ sa sn sc,(F y).ao=sa/\(F y).n=sn/\(F y).cap=sc:=⟨_,_,_,rfl,rfl,rfl⟩;rw [hf.1,hf.2.1,hf.2.2] at c1;have c1n:=((ze w8 (.cells #[.int .i64 num,.int .i64 num] 182)).cell (World.block_lt_of_cell? _ _ c1)).trans c1;have c1d:=((ze w8.drew (.cells #[.int .i64 num,.int .i64 num] 182)).cell (p:=⟨B,y,none⟩) (World.block_lt_of_cell? _ _ c1)).trans c1;have HF:=hide hf
     have y0:(0:Int) <= (y:Int):=by omega
     have y1:(y:Int) < 16:=by omega
     have cU:Hid (∀ W:World,W.heap[g7]? = w8.heap[g7]? -> W.cell? ⟨g7,0,none⟩=some (.int .i64 (y:Int))/\W.cell? ⟨g7,1,none⟩=some (.int .i64 num)):=fun W e1 =>
      ⟨(World.cell?_of_block e1).trans m0,(World.cell?_of_block e1).trans m1⟩
     clear hf sR;go_wp2_with fail;refine wp_region_held_drew (S:=fun W=>W.cell? ⟨g7,0,none⟩=some (.int .i64 (y:Int))/\W.cell? ⟨g7,1,none⟩=some (.int .i64 num)) (by kernel_rfl) (cU.out _ rfl) (fun hHeld=>?_);refine wU 0 ?_;refine wU 1 ?_;refine wU 2 ?_;refine wU 3 ?_;refine wU 4 ?_;refine wU 6 ?_;refine wU 7 ?_;refine wU 8 ?_;refine wU 9 ?_;refine wU 10 ?_;refine wpAnyH_ready (rs:=[5,11]) (by kernel_rfl) (by simp) ?_;refine AllReadyH.cons rfl (fun K hK=>?_) ?_
     ·go_simp;refine hK.out _ _ (cU.out _ rfl) (fun hHeld=>?_);clear hK K;refine wpAnyH_ready (rs:=[11]) (by kernel_rfl) (by simp) (.cons rfl (fun K hK=>?_) .nil);go_simp;refine hK.out _ _ (cU.out _ (Below.heap_alloc _ _ _ rZ.out)) (fun hHeld=>?_);clear hK K;refine wpAnyH_ready (rs:=[12]) (by kernel_rfl) (by simp) (.cons rfl (fun K hK=>?_) .nil);refine eU.out.o.step eU.out.h y hy ⟨num,num⟩ _ (by rfl) eW.out (by rfl) (.tmp 25) (.tmp 31) (by rfl) sa sn sc HF.out (by rfl) _ (by rfl) (by rfl) ?_;intro g6 c6 w9 O6 h2 h3 h4;have d1:=(eU.out.mid h2).cell y hy;have d2:=(eU.out.mid h2).frozen y;have HP:=hide (eU.out.push y hy ⟨num,num⟩ sn c6 g6 O6 h2 h3 h4 _ rfl);have uR:=hide (kP (B:=B) (k:=y) (v:=.slice (some ⟨g6,0,none⟩) (sn+1) c6) h2 rZ.out ts.out (by have:=pl.out;omega)).1;refine hK.out _ _ (cU.out _ (h2 _ rZ.out ts.out).1) (fun hHeld=>?_)
      clear hK K;refine wU 13 ?_;refine wpAnyH_ready (rs:=[14]) (by kernel_rfl) (by simp) (.cons rfl (fun K hK=>?_) .nil);go_simp;refine hK.out _ _ (cU.out _ uR.out) (fun hHeld=>?_);clear hK K;refine wpAnyH_done (by kernel_rfl) ?_ _;clear hHeld O6 h2 h3 h4;go_wp2_with fail;go_roundw
      case rel=>exact ⟨k+1,_,Bk.out,by simp,HP.out.congr (fun r hr=>HG.out r)⟩
      case measure=>simp [intOf];have:=Bk.out;omega
     ·refine AllReadyH.cons rfl (fun K hK=>?_) ?_;rotate_left
      ·exact AllReadyH.nil
      go_simp;refine hK.out _ _ (cU.out _ (Below.heap_alloc _ _ _ rZ.out)) (fun hHeld=>?_);clear hK K;refine wpAnyH_ready (rs:=[5]) (by kernel_rfl) (by simp) (.cons rfl (fun K hK=>?_) .nil);go_simp;refine hK.out _ _ (cU.out _ (Below.heap_alloc _ _ _ rZ.out)) (fun hHeld=>?_);clear hK K;refine wpAnyH_ready (rs:=[12]) (by kernel_rfl) (by simp) (.cons rfl (fun K hK=>?_) .nil);refine eU.out.o.step eU.out.h y hy ⟨num,num⟩ _ (by rfl) eW.out (by rfl) (.tmp 25) (.tmp 31) (by rfl) sa sn sc HF.out (by rfl) _ (by rfl) (by rfl) ?_;intro g6 c6 w9 O6 h2 h3 h4;have d1:=(eU.out.mid h2).cell y hy;have d2:=(eU.out.mid h2).frozen y;have HP:=hide (eU.out.push y hy ⟨num,num⟩ sn c6 g6 O6 h2 h3 h4 _ rfl);have uR:=hide (kP (B:=B) (k:=y) (v:=.slice (some ⟨g6,0,none⟩) (sn+1) c6) h2 rZ.out ts.out (by have:=pl.out;omega)).1;refine hK.out _ _ (cU.out _ (h2 _ rZ.out ts.out).1) (fun hHeld=>?_)
      clear hK K;refine wU 13 ?_;refine wpAnyH_ready (rs:=[14]) (by kernel_rfl) (by simp) (.cons rfl (fun K hK=>?_) .nil);go_simp;refine hK.out _ _ (cU.out _ uR.out) (fun hHeld=>?_);clear hK K;refine wpAnyH_done (by kernel_rfl) ?_ _;clear hHeld O6 h2 h3 h4;go_wp2_with fail;go_roundw
      case rel=>exact ⟨k+1,_,Bk.out,by simp,HP.out.congr (fun r hr=>HG.out r)⟩
      case measure=>simp [intOf];have:=Bk.out;omega
   ·have cL:¬ (k:Int) < (m:Int):=by omega
    obtain rfl:k=m:=by omega
    have l9:=wN HI.out.s
    have nz:Hid (∀ r,r < 16 -> aX w6 (F r).ao (F r).n (F r).cap (F r).L):=fun r hr=>HI.out.o.src HI.out.h hr (by
     have h:=HI.out.o.len hr;rw [HI.out.l r hr] at h;have h2:=zbl (C.take k) r;rw [List.length_take] at h2
     omega)
    have MH:Hid (∀ r,r < 16 -> (F r).L=cr C r):=fun r hr=>by rw [HI.out.l r hr,List.take_of_length_le (by have:=E9.out.1;omega)]
    have b56:=hide HI.out.b;have Hh:=hide HI.out.h;go_wp2_with fail;refine (qP F _ nz.out).mono ?_;rintro e w8 ⟨p,rfl,S2,n2,b2,c2'⟩;have h4:=H4.out;have b68:Below B w5 w8:=b56.out.trans (b2.mono (by have:=Hh.out;omega));have b48:Below (w.heap.size+1) w4 w8:=(Kd.below (Below.refl _ _) MK.out (by have:=C0.out;omega) (by have:=C0.out;omega)).trans (b68.mono (by have:=C0.out;omega));have b38:Below (w.heap.size+1) w3 w8:=(h4.2.1.mono (by have:=C0.out;omega)).trans b48;obtain ⟨s1,e1,e2,e3,e4⟩:=qU (w:=w) ((b38.block w.heap.size (by omega)).trans Et.out) S2 (n2.mono (by have:=Hh.out;have:=C0.out;omega)) (aB.out.trans (b38.mono (by omega))) (Nat.le_refl _);have dW:=hide e1
    have lO:Hid (cV w (w8.setRow w.heap.size (PC p)) (.returned (PV p)) (af (cr D))):=⟨p,rfl,e2,e3,e4,zcd (c2'.congr MH.out) (fun r _ n=>by
     rw [xW,xW];have hm:=E9.out.2.2;constructor
     ·rintro ⟨d,hd,h⟩;exact ⟨d,(hm d).1 hd,h⟩
     ·rintro ⟨d,hd,h⟩;exact ⟨d,(hm d).2 hd,h⟩)⟩
    clear S2 n2 b2 c2' e1 e2 e3 e4 l9 b38 b48 b68 h4;go_wp2_with fail;exact bodyPost_ret (v:=PV p) (eS Tryz.results101 rfl dW.out) rfl lO.out
end
end Go.Proofs.YtjffpimfngdggaaGreat
