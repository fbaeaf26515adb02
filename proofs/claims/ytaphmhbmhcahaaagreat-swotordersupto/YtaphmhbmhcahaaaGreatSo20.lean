/- OCm OOf -/
import Derived.Test.YtaphmhbmhcahaaaGreatTk
import Derived.Test.YtaphmhbmhcahaaaGreatSo17
import Derived.Laws.StructEq
import Derived.Shelf.SlicesQ.Reverse
import Derived.Lib.OwnBridge
import Derived.Deep.LoopGhost
import Derived.Lib.SlicesCompact
import Derived.Lib.QuietBelow
import Derived.Test.YtaphmhbmhcahaaaGreatSo19
import Derived.Test.YtaphmhbmhcahaaaGreatSo08
import Derived.Deep.RegionHeldLaw
set_option maxRecDepth 100000
set_option maxHeartbeats 8000000
namespace Go.Proofs.YtaphmhbmhcahaaaGreat
section
open Go.RowKit Go.Sort Go.Lib
attribute [local go_sem ↓] ldD_eq stD_eq
structure Kd (w w':World) (g:Nat):Prop where
 os:w'.os=w.os
 tape:w'.tape=w.tape
 output:w'.output=w.output
 size:w.heap.size <= w'.heap.size
 block:∀ k,k < w.heap.size -> k≠g -> w'.heap[k]? = w.heap[k]?
theorem Kd.refl (w:World) (g:Nat):Kd w w g:=⟨rfl,rfl,rfl,Nat.le_refl _,fun _ _ _=>rfl⟩
theorem Kd.of_below {w w':World} {g:Nat} (h:Below w.heap.size w w'):Kd w w' g:=⟨h.os,h.tape,h.output,h.size,fun k hk _=>h.block k hk⟩
theorem Kd.trans {w w' w2:World} {g:Nat} (h:Kd w w' g) (k:Kd w' w2 g):Kd w w2 g:=⟨k.os.trans h.os,k.tape.trans h.tape,k.output.trans h.output,Nat.le_trans h.size k.size,fun j hj hn=>(k.block j (Nat.lt_of_lt_of_le hj h.size) hn).trans (h.block j hj hn)⟩
theorem Kd.below {w w' w0:World} {g B:Nat} (b:Below B w0 w) (h:Kd w w' g) (hg:B <= g) (hB:B <= w.heap.size):Below B w0 w':=⟨h.os.trans b.os,h.tape.trans b.tape,h.output.trans b.output,Nat.le_trans b.size h.size,fun k hk=>(h.block k (by omega) (by omega)).trans (b.block k hk)⟩
def eqD (x y:Rn):Bool:=x.lo == y.lo && x.hi == y.hi
theorem eqD_iff (x y:Rn):eqD x y=true↔x=y:=by
 obtain ⟨a,b⟩:=x;obtain ⟨c,d⟩:=y;simp [eqD]
theorem run_eqD (x y:Rn) (w:World):(Op.equalIn 10000 43 (.agg (RC x)) (.agg (RC y))).run Tryz.prog w = .ok (eqD x y) w:=by
 have u3:=Tryz.underlying3;have a3:=Tryz.isAgg3;have z3:=Tryz.sizeOf3
 have hS:Tryz.prog.underlying 43=some (.struct (Tryz.prog.fieldsOf 43)):=by kernel_rfl
 have hp:Tryz.prog.stoodInHeld 43=false:=by kernel_rfl
 show (Op.equalIn 10000 43 (.agg #[.int .i64 x.lo,.int .i64 x.hi]) (.agg #[.int .i64 y.lo,.int .i64 y.hi])).run Tryz.prog w=_
 rw [show (10000:Nat)=9999+1 from rfl,run_equalIn_struct w 9999 43 _ _ hS hp];simp only [Program.fieldsOf,Tryz.underlying43];go_simp;unfold eqD;by_cases h1:x.lo=y.lo <;> by_cases h2:x.hi=y.hi <;> simp [h1,h2]
theorem MR.on {W W':World} {ad:Addr} {d:Array Rn} (M:MR W ad d) (hb:Below W.heap.size W W'):MR W' ad d:=
 ⟨fun j hj=>by rw [hb.cell (p:=⟨ad.block,0+j,none⟩) M.lt,hb.frozen (p:=⟨ad.block,0+j,none⟩) M.lt];exact M.hk j hj,Nat.lt_of_lt_of_le M.lt hb.size,M.ha⟩
theorem flat_set (d:Array Rn) (i:Nat) (e:Rn) (hi:i < d.size):setMany (flatK encR 2 d) (i * 2) (encR e)=flatK encR 2 (d.setIfInBounds i e):=by
 refine ext_get! (by simp) fun t ht=>?_
 have ht':t < d.size * 2:=by simpa using ht
 rw [get_setMany _ _ _ t (by simpa using ht'),get_flatK _ _ _ t ht',get_flatK _ _ _ t (by simpa using ht'),encR_len];by_cases a:t / 2=i
 ·rw [if_pos ((blk_iff 2 i t (by omega)).2 a),a,getElem!_set_same d i e hi,show t - i * 2=t % 2 by omega]
 ·rw [if_neg (fun h=>a ((blk_iff 2 i t (by omega)).1 h)),getElem!_set_other d i _ e a]
theorem kd_put (W:World) (g:Nat) (F:Array Value):Kd W (putRow id W g 0 F) g:=⟨rfl,rfl,rfl,by simp [putRow,mapBlock],fun k _ hn=>by simp [putRow,mapBlock,Array.getElem?_modify,show ¬ g=k from fun e=>hn e.symm]⟩
theorem MR.setCells {W:World} {ad:Addr} {d:Array Rn} (M:MR W ad d) (i:Nat) (e:Rn) (hi:i < d.size) :
  W.setCells ad.block (i * 2) (encR e)=putRowK encR 2 W ad.block 0 (d.setIfInBounds i e):=by
 have h1:=putRowK_self encR 2 W ad.block 0 d M.hk;have h2:=setCells_putRow W ad.block 0 (encR e) (i * 2) (flatK encR 2 d) (by rw [encR_len,size_flatK];have:=Nat.mul_le_mul_right 2 (show i+1 <= d.size from hi);omega);unfold putRowK at h1;rw [h1,flat_set d i e hi,Nat.zero_add] at h2;exact h2
theorem MR.store {W:World} {ad:Addr} {d:Array Rn} (M:MR W ad d) (i:Nat) (e:Rn) (hi:i < d.size) :
  ∃ W':World,(stD (.pointer (some (ad.add (i * 2)))) (RV e)).run Tryz.prog W = .ok () W'/\MR W' ad (d.setIfInBounds i e)/\Kd W W' ad.block/\W'.heap.size=W.heap.size:=by
 have hs:=stores_of_holds Tryz.prog (W:=W) (blk:=ad.block) (off:=0) (F:=flatK encR 2 d) M.hk (i * 2) (encR e) (by rw [encR_len,size_flatK];have:=Nat.mul_le_mul_right 2 (show i+1 <= d.size from hi);omega) (RC_one e);rw [Nat.zero_add,M.setCells i e hi] at hs;refine ⟨_,?_,⟨holdsK_putRowK encR 2 W ad.block 0 d _ M.hk (by simp),by show ad.block < (putRow id W ad.block 0 _).heap.size;rw [size_putRow];exact M.lt,M.ha⟩,kd_put W ad.block _,size_putRow _ _ _ _ _⟩;have ha:=M.ha;rw [ha,Addr.add_lit,Nat.zero_add];unfold stD
 cases hq:Tryz.prog.info? 43 with
 | none=>have:=sizeD;simp [hq] at this
 | some x =>
  have hz:x.size=2:=by have:=sizeD;simpa [hq] using this
  have hs':(storeCells ⟨ad.block,i * 2,none⟩ (RC e).toList 0).run Tryz.prog W = .ok () (putRowK encR 2 W ad.block 0 (d.setIfInBounds i e)):=hs;simp only [Instr.storeAt,Instr.sureAddr,Sem.run_bind,Sem.run_pure,Result.andThen,storeVar,sizeOf,typeInfo,cells_RV,RC_size];simp [hs',hq,hz]
theorem flat_lay (d:Array Rn):∀ (xs:List Rn) (i:Nat),i+xs.length <= d.size -> setMany (flatK encR 2 d) (i * 2) (xs.map encR).flatten=flatK encR 2 (Lib.lay d i xs)
 | [],_,_=>rfl
 | x :: r,i,h=>by
  have hi:i < d.size:=by simp at h;omega
  have key:∀ (F:Array Value) (s:Nat) (a b:List Value),setMany F s (a++b)=setMany (setMany F s a) (s+a.length) b:=by
   intro F s a
   induction a generalizing F s with
   | nil=>intro b;rfl
   | cons v a ih=>intro b;simp only [List.cons_append,setMany,List.length_cons];rw [ih,show s+1+a.length=s+(a.length+1) by omega]
  rw [List.map_cons,List.flatten_cons,key,flat_set d i x hi,encR_len,show i * 2+2=(i+1) * 2 by omega];exact flat_lay (d.setIfInBounds i x) r (i+1) (by simp at h ⊢;omega)
theorem zeroD29 (w:World):(zeroValue 43).run Tryz.prog w = .ok (RV rn0) w:=Tryz.zeroValue43 w
theorem zeros (n:Nat):(Builtin.zeroCells (RC rn0) n).toList=((List.replicate n rn0).map encR).flatten:=by
 show _=rcs (List.replicate n rn0)
 apply List.ext_getElem?;intro t;by_cases ht:t < n * 2
 ·have h2:=rcs_at (List.replicate n rn0) (t / 2) (t % 2) (by simp;omega) (by omega);rw [show t / 2 * 2+t % 2=t by omega] at h2
  have hg:(List.replicate n rn0).getD (t / 2) rn0=rn0:=by simp [List.getD,show t / 2 < n by omega]
  rw [h2,hg]
  have h1:(Builtin.zeroCells (RC rn0) n).toList[t]? = some ((RC rn0)[t % 2]!):=by simp [Builtin.zeroCells,RC_size,ht]
  rw [h1]
  have:t % 2=0∨t % 2=1:=by omega
  rcases this with h | h <;> rw [h] <;> rfl
 ·rw [List.getElem?_eq_none (by simp [Builtin.zeroCells,RC_size];omega),List.getElem?_eq_none (by rw [rcs_length];simp;omega)]
theorem lay_size (d:Array Rn):∀ (xs:List Rn) (k:Nat),(Lib.lay d k xs).size=d.size:=by
 intro xs
 induction xs generalizing d with
 | nil=>intro k;rfl
 | cons x r ih=>intro k;rw [Lib.lay,ih];simp
theorem MR.clear {W:World} {ad:Addr} {d:Array Rn} (M:MR W ad d) (kk:Nat) (hk:kk < d.size) (c:Nat) :
  ∃ (W':World) (d':Array Rn),(∀ ty,(Builtin.clear_ #[39] ty #[.slice (some (ad.add (kk * 2))) (d.size - kk) c]).run Tryz.prog W = .ok (.tuple #[]) W')/\MR W' ad d'/\d'.size=d.size/\(∀ j,j < kk -> d'[j]! = d[j]!)/\Kd W W' ad.block/\W'.heap.size=W.heap.size:=by
 obtain ⟨m,hm⟩:∃ m,d.size - kk=m:=⟨_,rfl⟩;have h1:=putRowK_self encR 2 W ad.block 0 d M.hk
 have hlen:(((List.replicate m rn0).map encR).flatten).length=m * 2:=by
  have:=rcs_length (List.replicate m rn0);rwa [List.length_replicate] at this
 have hs:=stores_of_holds Tryz.prog (W:=W) (blk:=ad.block) (off:=0) (F:=flatK encR 2 d) M.hk (kk * 2) ((List.replicate m rn0).map encR).flatten (by rw [hlen,size_flatK];omega) (by
  intro v hv;obtain ⟨l,hl,hv⟩:=List.mem_flatten.1 hv;obtain ⟨e,_,rfl⟩:=List.mem_map.1 hl
  exact RC_one e v hv)
 have h2:=setCells_putRow W ad.block 0 ((List.replicate m rn0).map encR).flatten (kk * 2) (flatK encR 2 d) (by rw [hlen,size_flatK];omega);unfold putRowK at h1;rw [h1,flat_lay d (List.replicate m rn0) kk (by simp;omega),Nat.zero_add] at h2;rw [Nat.zero_add,h2] at hs;refine ⟨_,Lib.lay d kk (List.replicate m rn0),fun ty=>?_,⟨holdsK_putRowK encR 2 W ad.block 0 d _ M.hk (lay_size _ _ _),by show ad.block < (putRow id W ad.block 0 _).heap.size;rw [size_putRow];exact M.lt,M.ha⟩,lay_size _ _ _,fun j hj=>?_,kd_put W ad.block _,size_putRow _ _ _ _ _⟩
 ·have ha:=M.ha;rw [ha,Addr.add_lit,Nat.zero_add,hm];obtain ⟨m',rfl⟩:∃ m',m=m'+1:=⟨m - 1,by omega⟩;have hz:=zeroD29 W;simp [Builtin.clear_,run_underlying Tryz.underlying39,hz];rw [cells_RV,zeros,hs];rfl
 ·have:=Lib.lay_get? (List.replicate m rn0) d kk j (by simp;omega);rw [if_neg (by omega)] at this;rw [getElem!_def,getElem!_def,this]
attribute [local go_sem ↓] run_eqD
attribute [local go_sem] zero_RC cells_RV RC_size
def clD (a:Value):Sem Value:=Builtin.clear_ #[39] 0 #[a]
theorem clD_eq (a:Value):Builtin.clear_ #[39] 0 #[a]=clD a:=rfl
attribute [local go_sem ↓] clD_eq
def CompOut (w w':World) (e:Ending) (ad:Addr) (cap:Nat) (d:Array Rn):Prop:=
 ∃ k d',e = .returned (.slice (some ad) k cap)/\MR w' ad d'/\k <= d.size/\d'.size=d.size/\d'.toList.take k=compactUpTo d d.size/\Kd w w' ad.block
theorem compOut_all {w w':World} {ad:Addr} {cap n:Nat} {d:Array Rn} (hn:d.size=n) (M:MR w' ad d) (hb:Kd w w' ad.block) (hall:∀ j,j < d.size -> keeps d j=true):CompOut w w' (.returned (.slice (some ad) n cap)) ad cap d:=
 ⟨n,d,rfl,M,by omega,rfl,by rw [compactUpTo_all d _ hall,range_map_get,List.take_of_length_le (by simp;omega)],hb⟩
theorem comp_low {d dk d':Array Rn} {n kk:Nat} (hI:CompInv d n kk dk) (hn:d.size=n) (hs:d'.size=dk.size) (hl:∀ j,j < kk -> d'[j]! = dk[j]!):d'.toList.take kk=compactUpTo d d.size:=by
 rw [hn];have hkk:=hI.lt;have hsz:=hI.size;apply List.ext_getElem?;intro j;by_cases hj:j < kk
 ·rw [hI.low j hj,<- hl j hj,List.getElem?_take,if_pos hj,Array.getElem?_toList,Array.getElem?_eq_getElem (by omega),getElem!_pos d' j (by omega)]
 ·rw [List.getElem?_eq_none (by rw [List.length_take];omega),List.getElem?_eq_none (by rw [hI.len];omega)]
theorem compact_any (ad:Addr) (cap n:Nat) (d:Array Rn) (w:World) (M:MR w ad d) (hn:d.size=n) (hb:n <= 8796093022207) (hcap:n <= cap) (hcm:cap <= 9223372036854775807) :
  Calls Tryz.prog 131 #[.slice (some ad) n cap] w fun e w'=>CompOut w w' e ad cap d:=by
 have HM:=hide M;have HN:=hide hn;clear M hn;by_cases h2:n < 2
 ·have HF:Hid (CompOut w w (.returned (.slice (some ad) n cap)) ad cap d):=compOut_all HN.out HM.out (Kd.refl _ _) (fun j hj=>keeps_lt_one d j (by have:=HN.out;omega));go_enter Tryz.func131,Tryz.ntmps131;go_wp2_with fail;go_ret;exact HF.out
 ·go_enter Tryz.func131,Tryz.ntmps131;go_wp2_with fail;go_loopg [3] n (fun g s wr=>∃ k:Nat,1 <= k/\k <= n/\n - k <= g/\s = .int .i64 k/\Hid (Below w.heap.size w wr/\∀ j,j < k -> keeps d j=true))
  case atStart=>exact ⟨1,Nat.le_refl _,by omega,by omega,rfl,Below.refl _ _,keeps_lt_one d⟩
  case round =>
   obtain ⟨k,hk1,hk,hg,rfl,H⟩:=hrel
   rename World=>w4
   have HM4:=hide (HM.out.on H.out.1);by_cases hlt:k < n
   ·obtain ⟨j,hj⟩:∃ j,k - 1=j:=⟨_,rfl⟩
    have hz:IntKind.i64.wrap ((k:Int) - 1)=(j:Int):=by rw [IntKind.wrap_i64];omega
    have hjn:j < n:=by omega
    have A0:=hide (HM4.out.at k (by rw [HN.out];exact hlt));have A1:=hide (HM4.out.at j (by rw [HN.out];exact hjn));obtain ⟨x,Hx⟩:∃ x,Hid (d[k]! = x):=⟨_,rfl⟩;obtain ⟨y,Hy⟩:∃ y,Hid (d[j]! = y):=⟨_,rfl⟩;rw [Hx.out] at A0;rw [Hy.out] at A1;have Hj:=hide hj;clear hj;have l0:∀ d os,(ldD (.pointer (some (ad.add (k * 2))))).run Tryz.prog (Sort.grow (redrawn w4 d) os) = .ok (RV x) (Sort.grow (redrawn w4 d) os):=fun d os=>run_ldD (A0.out.on (below_regrown w4 d os));have l1:∀ d os,(ldD (.pointer (some (ad.add (j * 2))))).run Tryz.prog (Sort.grow (redrawn w4 d) os) = .ok (RV y) (Sort.grow (redrawn w4 d) os):=fun d os=>run_ldD (A1.out.on (below_regrown w4 d os));obtain ⟨q,hq⟩:∃ q,eqD x y=q:=⟨_,rfl⟩
    cases q with
    | false =>
     have HK:Hid (keeps d k=true):=keeps_pos (by rw [Hj.out,Hx.out,Hy.out];intro h;rw [(eqD_iff x y).2 h] at hq;cases hq);go_wp2_with fail;refine wp_region_quiet_below (by kernel_rfl) (by kernel_rfl) ?_
     repeat (with_reducible (refine wpQuiet_step ?_);intro K hK;go_simp;(try rw [if_neg (by unfold undef;simp)]);first | (with_reducible (refine hK _ ?_);clear hK K) | (apply Exists.intro;refine ⟨fun _=>?_,hK _ ?_⟩;(fail);clear hK K))
     with_reducible (refine wpQuiet_nil ?_)
     intro w5 hw';obtain ⟨⟨dq,osq⟩,hw''⟩:=hw'
     have b5:Below w4.heap.size w4 w5:=by rw [hw''];exact below_regrown w4 dq osq
     clear hw'' dq osq
     have H5:Hid (Below w.heap.size w w5/\∀ j,j < k+1 -> keeps d j=true):=⟨H.out.1.trans (b5.mono H.out.1.size),fun i hi=>by
      by_cases e:i=k
      ·rw [e];exact HK.out
      ·exact H.out.2 i (by omega)⟩
     clear b5 l0 l1;go_wp2_with fail;go_roundg (n - (k+1))
     case measure=>omega
     case rel=>exact ⟨k+1,by omega,by omega,Nat.le_refl _,by go_num,H5⟩
    | true =>
     have HK:Hid (keeps d k=false):=keeps_neg (by omega) (by rw [Hj.out,Hx.out,Hy.out];exact (eqD_iff x y).1 hq);go_wp2_with fail;refine wp_region_quiet_below (by kernel_rfl) (by kernel_rfl) ?_
     repeat (with_reducible (refine wpQuiet_step ?_);intro K hK;go_simp;(try rw [if_neg (by unfold undef;simp)]);first | (with_reducible (refine hK _ ?_);clear hK K) | (apply Exists.intro;refine ⟨fun _=>?_,hK _ ?_⟩;(fail);clear hK K))
     with_reducible (refine wpQuiet_nil ?_)
     intro w5 hw';obtain ⟨⟨dq,osq⟩,hw''⟩:=hw'
     have b5:Below w4.heap.size w4 w5:=by rw [hw''];exact below_regrown w4 dq osq
     clear hw'' dq osq;have HM5:=hide (HM4.out.on b5);have HB5:Hid (Kd w w5 ad.block):=(Kd.of_below H.out.1).trans (Kd.of_below b5);have HC5:Hid (CompInv d (k+1) k d):=CompInv.start H.out.2 HK.out;clear b5 l0 l1 hq;go_wp2_with fail;go_loopg [3,5] n (fun g s3 s5 wr=>∃ (kk k2:Nat) (dk:Array Rn),1 <= k2/\k+k2 <= n/\kk < n/\n - (k+k2) <= g/\s3 = .int .i64 kk/\s5 = .int .i64 k2/\Hid (MR wr ad dk/\CompInv d (k+k2) kk dk/\Kd w wr ad.block))
     case atStart=>exact ⟨k,1,d,Nat.le_refl _,by omega,hlt,by omega,rfl,rfl,HM5.out,HC5.out,HB5.out⟩
     case round =>
      obtain ⟨kk,k2,dk,hk2,hkn,hkk,hg2,rfl,rfl,HI⟩:=hrel
      rename World=>w6
      clear HM5 HC5 HB5 HM4 A0 A1;have HD:Hid (dk.size=n):=HI.out.2.1.size.trans HN.out;by_cases hlt2:k2 < n - k
      ·obtain ⟨j2,hj2⟩:∃ j2,k2 - 1=j2:=⟨_,rfl⟩
       have hz2:IntKind.i64.wrap ((k2:Int) - 1)=(j2:Int):=by rw [IntKind.wrap_i64];omega
       have hjn2:j2 < n - k:=by omega
       have A0:=hide (HI.out.1.at (k+k2) (by rw [HD.out];omega));have A1:=hide (HI.out.1.at (k+j2) (by rw [HD.out];omega));have hkk2:=HI.out.2.1.lt;obtain ⟨u,Hu⟩:∃ u,Hid (d[k+k2]! = u):=⟨_,rfl⟩;obtain ⟨v,Hv⟩:∃ v,Hid (d[k+j2]! = v):=⟨_,rfl⟩;rw [HI.out.2.1.high (k+k2) (by omega),Hu.out,Nat.add_mul,<- add_add] at A0;rw [HI.out.2.1.high (k+j2) (by omega),Hv.out,Nat.add_mul,<- add_add] at A1
       have Hj2:Hid (k+k2 - 1=k+j2):=by show _=_;omega
       clear hj2;have l0:∀ d os,(ldD (.pointer (some ((ad.add (k * 2)).add (k2 * 2))))).run Tryz.prog (Sort.grow (redrawn w6 d) os) = .ok (RV u) (Sort.grow (redrawn w6 d) os):=fun d os=>run_ldD (A0.out.on (below_regrown w6 d os));have l1:∀ d os,(ldD (.pointer (some ((ad.add (k * 2)).add (j2 * 2))))).run Tryz.prog (Sort.grow (redrawn w6 d) os) = .ok (RV v) (Sort.grow (redrawn w6 d) os):=fun d os=>run_ldD (A1.out.on (below_regrown w6 d os));obtain ⟨q2,hq2⟩:∃ q2,eqD u v=q2:=⟨_,rfl⟩
       cases q2 with
       | true =>
        have HNX:Hid (CompInv d (k+k2+1) kk dk):=HI.out.2.1.skip (keeps_neg (by omega) (by rw [Hj2.out,Hu.out,Hv.out];exact (eqD_iff u v).1 hq2));go_wp2_with fail;refine wp_region_quiet_below (by kernel_rfl) (by kernel_rfl) ?_
        repeat (with_reducible (refine wpQuiet_step ?_);intro K hK;go_simp;(try rw [if_neg (by unfold undef;simp)]);first | (with_reducible (refine hK _ ?_);clear hK K) | (apply Exists.intro;refine ⟨fun _=>?_,hK _ ?_⟩;(fail);clear hK K))
        with_reducible (refine wpQuiet_nil ?_)
        intro w7 hw';obtain ⟨⟨dq,osq⟩,hw''⟩:=hw'
        have b7:Below w6.heap.size w6 w7:=by rw [hw''];exact below_regrown w6 dq osq
        clear hw'' dq osq;have H7:Hid (MR w7 ad dk/\CompInv d (k+(k2+1)) kk dk/\Kd w w7 ad.block):=⟨HI.out.1.on b7,HNX.out,HI.out.2.2.trans (Kd.of_below b7)⟩;clear b7 l0 l1;go_wp2_with fail;go_roundg (n - (k+(k2+1)))
        case measure=>omega
        case rel=>exact ⟨kk,k2+1,dk,by omega,by omega,hkk,Nat.le_refl _,rfl,by go_num,H7⟩
       | false =>
        have HNX:Hid (CompInv d (k+k2+1) (kk+1) (dk.setIfInBounds kk u)):=by
         have:=HI.out.2.1.keep (by rw [HN.out];omega) (keeps_pos (by rw [Hj2.out,Hu.out,Hv.out];intro h;rw [(eqD_iff u v).2 h] at hq2;cases hq2));rwa [Hu.out] at this
        go_wp2_with fail;refine wp_region_quiet_below (by kernel_rfl) (by kernel_rfl) ?_
        repeat (with_reducible (refine wpQuiet_step ?_);intro K hK;go_simp;(try rw [if_neg (by unfold undef;simp)]);first | (with_reducible (refine hK _ ?_);clear hK K) | (apply Exists.intro;refine ⟨fun _=>?_,hK _ ?_⟩;(fail);clear hK K))
        with_reducible (refine wpQuiet_nil ?_)
        intro w7 hw';obtain ⟨⟨dq,osq⟩,hw''⟩:=hw'
        have b7:Below w6.heap.size w6 w7:=by rw [hw''];exact below_regrown w6 dq osq
        clear hw'' dq osq;have l7:=run_ldD (A0.out.on b7);obtain ⟨w8,hst,M8,B8,_⟩:=(HI.out.1.on b7).store kk u (by rw [HD.out];exact hkk);have H8:Hid (MR w8 ad (dk.setIfInBounds kk u)/\CompInv d (k+(k2+1)) (kk+1) (dk.setIfInBounds kk u)/\Kd w w8 ad.block):=⟨M8,HNX.out,(HI.out.2.2.trans (Kd.of_below b7)).trans B8⟩;clear b7 l0 l1 M8 B8;go_wp2_with fail;go_roundg (n - (k+(k2+1)))
        case measure=>omega
        case rel=>exact ⟨kk+1,k2+1,dk.setIfInBounds kk u,by omega,by omega,by omega,Nat.le_refl _,by go_num,by go_num,H8⟩
      ·have hend:k+k2=n:=by omega
       obtain ⟨w7,d',hcl,M7,hs7,hl7,B7,_⟩:=HI.out.1.clear kk (by rw [HD.out];exact hkk) (cap - kk);rw [HD.out] at hcl;have hcl0:(clD (.slice (some (ad.add (kk * 2))) (n - kk) (cap - kk))).run Tryz.prog w6 = .ok (.tuple #[]) w7:=hcl 0
       have HF:Hid (CompOut w w7 (.returned (.slice (some ad) kk cap)) ad cap d):=by
        have hI:=HI.out.2.1;rw [hend] at hI;exact ⟨kk,d',rfl,M7,by rw [HN.out];omega,hs7.trans hI.size,comp_low hI HN.out hs7 hl7,HI.out.2.2.trans B7⟩
       clear hcl M7 hs7 hl7 B7;go_wp2_with fail;go_ret;exact HF.out
   ·have HF:Hid (CompOut w w4 (.returned (.slice (some ad) n cap)) ad cap d):=compOut_all HN.out HM4.out (Kd.of_below H.out.1) (fun j hj=>H.out.2 j (by have:=HN.out;omega));go_wp2_with fail;go_ret;exact HF.out
end
section
open Go.RowKit Go.Lib
attribute [local go_sem ↓] ldP_eq stP_eq ldA_eq stA_eq ldD_eq stD_eq
attribute [local go_sem] zeros_SA cells_SAv zero_PC cells_PV fold_PC PC_size
def okD (d:Rn):Bool:=V.isR d.lo && (decide (1 <= d.hi) && decide (d.hi <= 1000000000))
def dotsG (C:List Rn) (r:Nat):List Rn:=(C.filter (fun d=>okD d && decide (d.lo=(r:Int)))).map (fun d=>⟨d.hi,d.hi⟩)
theorem dotsG_snoc (C:List Rn) (d:Rn) (r:Nat):dotsG (C++[d]) r=if (okD d && decide (d.lo=(r:Int)))=true then dotsG C r++[⟨d.hi,d.hi⟩] else dotsG C r:=by
 unfold dotsG;rw [List.filter_append];by_cases h:(okD d && decide (d.lo=(r:Int)))=true
 ·rw [if_pos h,List.filter_cons_of_pos (p:=fun d:Rn=>okD d && decide (d.lo=(r:Int))) h];simp
 ·rw [if_neg h,List.filter_cons_of_neg (p:=fun d:Rn=>okD d && decide (d.lo=(r:Int))) h];simp
theorem dotsG_len (C:List Rn) (r:Nat):(dotsG C r).length <= C.length:=by unfold dotsG;rw [List.length_map];exact List.length_filter_le _ _
theorem dotsG_mem (C:List Rn) (r:Nat) (n:Int):mem (dotsG C r) n↔∃ d∈C,okD d=true/\d.lo=(r:Int)/\d.hi=n:=by
 unfold mem dotsG;constructor
 ·rintro ⟨h1,h2,x,hx,h3,h4⟩;obtain ⟨d,hd,rfl⟩:=List.mem_map.1 hx;obtain ⟨hd1,hd2⟩:=List.mem_filter.1 hd;simp only [Bool.and_eq_true,decide_eq_true_eq] at hd2;simp only at h3 h4;exact ⟨d,hd1,hd2.1,hd2.2,by omega⟩
 ·rintro ⟨d,hd,h1,h2,rfl⟩;have h3:=h1;unfold okD at h3;simp only [Bool.and_eq_true,decide_eq_true_eq] at h3;exact ⟨h3.2.1,h3.2.2,⟨d.hi,d.hi⟩,List.mem_map.2 ⟨d,List.mem_filter.2 ⟨hd,by simp [h1,h2]⟩,rfl⟩,Int.le_refl _,Int.le_refl _⟩
theorem canonOf_mem {G G':Nat -> List Rn} {P:Pst} (h:CanonOf G P) (e:∀ r,r < 16 -> ∀ n,mem (G r) n↔mem (G' r) n):CanonOf G' P:=by
 obtain ⟨N,hN,hP⟩:=h;exact ⟨N,fun r hr=>⟨(hN r hr).1,fun n=>((hN r hr).2 n).trans (e r hr n)⟩,hP⟩
theorem cmpD_sub (d:Array Rn):(compactUpTo d d.size).Sublist d.toList:=by
 have h:(compactUpTo d d.size).Sublist ((List.range d.size).map (d[·]!)):=List.filter_sublist.map _;rwa [range_map_get] at h
theorem bang_atD (d:Array Rn) (i:Nat) (h:i < d.size):d[i]! = d[i]:=getElem!_pos d i h
theorem cmpD_mem (d:Array Rn) (m:Nat):m <= d.size -> ∀ j,j < m -> d[j]! ∈ compactUpTo d m:=by
 induction m with
 | zero=>intro _ j hj;omega
 | succ m ih =>
  intro hm j hj;rw [compactUpTo_succ];by_cases e:j=m
  ·subst e;by_cases hk:keeps d j=true
   ·rw [if_pos hk];simp
   ·rw [if_neg hk,List.append_nil]
    have hk':¬ (j=0∨d[j]! ≠ d[j - 1]!):=by simpa [keeps] using hk
    have h0:¬ j=0:=fun h=>hk' (Or.inl h);have h1:d[j]! = d[j - 1]! := Classical.byContradiction fun h=>hk' (Or.inr h);rw [h1];exact ih (by omega) (j - 1) (by omega)
  ·exact List.mem_append_left _ (ih (by omega) j (by omega))
theorem cmpD_iff (d:Array Rn) (x:Rn):x∈compactUpTo d d.size↔x∈d.toList:=by
 constructor
 ·exact fun h=>(cmpD_sub d).mem h
 ·intro h;obtain ⟨i,hi,rfl⟩:=List.mem_iff_getElem.1 h
  have hi':i < d.size:=by simpa using hi
  have:=cmpD_mem d d.size (Nat.le_refl _) i hi';rw [bang_atD d i hi'] at this;simpa using this
structure SI3 (B:Nat) (wb W:World) (F:Nat -> Sl) (G:Nat -> List Rn):Prop where
 s:Sets W B F
 o:OwnA (B+1) W F
 l:∀ r,r < 16 -> (F r).L=G r
 b:Below B wb W
 h:B+1 <= W.heap.size
theorem SI3.on {B:Nat} {wb W W':World} {F:Nat -> Sl} {G:Nat -> List Rn} (I:SI3 B wb W F G) (hb:Below W.heap.size W W'):SI3 B wb W' F G:=
 ⟨I.s.below hb,I.o.below hb,I.l,I.b.trans (hb.mono (by have:=I.h;omega)),Nat.le_trans I.h hb.size⟩
theorem SI3.congr {B:Nat} {wb W:World} {F:Nat -> Sl} {G G':Nat -> List Rn} (I:SI3 B wb W F G) (h:∀ r,r < 16 -> G r=G' r):SI3 B wb W F G':=
 ⟨I.s,I.o,fun r hr=>(I.l r hr).trans (h r hr),I.b,I.h⟩
theorem SI3.mid {B:Nat} {wb W w2:World} {F F':Nat -> Sl} {G:Nat -> List Rn} (I:SI3 B wb W F G) (h2:∀ q,q < W.heap.size -> Off F q -> w2.heap[q]? = W.heap[q]? /\ Off F' q):Sets w2 B F:=
 ((h2 _ (by have:=I.h;omega) (I.o.off _ (Or.inl (by omega)))).1).trans I.s
theorem SI3.push {B:Nat} {wb W w2:World} {F:Nat -> Sl} {G:Nat -> List Rn} (I:SI3 B wb W F G) (k:Nat) (_:k < 16) (e:Rn) (n cap2 g:Nat)
  (O2:OwnA (B+1) w2 (Fset F k ⟨some ⟨g,0,none⟩,n+1,cap2,(F k).L++[e]⟩)) (h2:∀ q,q < W.heap.size -> Off F q -> w2.heap[q]? = W.heap[q]? /\ Off (Fset F k ⟨some ⟨g,0,none⟩,n+1,cap2,(F k).L++[e]⟩) q) (h3:W.heap.size < w2.heap.size) (h4:∀ n0 w0,n0 <= B+1 -> Below n0 w0 W -> Below n0 w0 w2) (v:Value) (hv:v = .slice (some ⟨g,0,none⟩) (n+1) cap2) :
  SI3 B wb (w2.setCell ⟨B,k,none⟩ v) (Fset F k ⟨some ⟨g,0,none⟩,n+1,cap2,(F k).L++[e]⟩) (fun r=>if r=k then G r++[e] else G r):=by
 have hh:=I.h
 have other:∀ q,q≠B -> (w2.setCell ⟨B,k,none⟩ v).heap[q]? = w2.heap[q]?:=fun q hq=>by
  simp [World.setCell,Array.getElem?_modify,show ¬ B=q by omega]
 refine ⟨(I.mid h2).set k _ v hv,O2.kept (fun q hq hno=>other q (fun e=>hno ?_)),fun r hr=>?_,?_,?_⟩
 ·rw [e];exact O2.off _ (Or.inl (by omega))
 ·by_cases h:r=k
  ·subst h;rw [Fset_same,if_pos rfl,<- I.l r hr]
  ·rw [Fset_other _ _ _ _ h,if_neg h,<- I.l r hr]
 ·exact V.below_setCell (h4 _ _ (by omega) I.b) (by simp)
 ·have:(w2.setCell ⟨B,k,none⟩ v).heap.size=w2.heap.size:=by simp [World.setCell]
  omega
theorem cloneD_nil (w:World):Calls Tryz.prog 128 #[.slice none 0 0] w fun e w'=>e = .returned (.slice none 0 0)/\w'=w:=by
 have hnil:(binOp .eql 39 (.slice none 0 0) (.slice none 0 0)).run Tryz.prog w = .ok (.bool true) w:=Lib.run_eql_slice_nil_nil w 0 0 Tryz.underlying39;go_enter Tryz.func128,Tryz.ntmps128;go_wp2_with fail;go_ret;exact ⟨rfl,rfl⟩
theorem sortD0 (ao:Option Addr) (cap:Nat) (w:World):Calls Tryz.prog 129 #[.slice ao 0 cap,.func (.func 130) #[] #[]] w fun e w'=>e = .returned (.tuple #[])/\w'=w:=AnyF.slices_SortFunc_none Tryz.sortD ao cap _ w
theorem cloneD_all (ao:Option Addr) (n c:Nat) (D:List Rn) (w:World) (hS:RSrc w ao n c D) :
  Calls Tryz.prog 128 #[.slice ao n c] w fun e w'=>∃ ao c',e = .returned (.slice ao n c')/\OwnD w.heap.size w.heap.size w w' ao c' D:=by
 cases ao with
 | some ad=>exact cloneD_any ad n c D w hS
 | none =>
  obtain ⟨rfl,rfl⟩:=hS.nil rfl;obtain rfl:D=[]:=List.eq_nil_of_length_eq_zero hS.len;refine (cloneD_nil w).mono ?_;rintro e w' ⟨rfl,rfl⟩;exact ⟨none,0,rfl,World.ownsRow_nil _ _ _ _,Below.refl _ _,Nat.le_refl _,Nat.le_refl _⟩
theorem pastOfN_any (ao:Option Addr) (n c:Nat) (D:List Rn) (w:World) (hS:RSrc w ao n c D) :
  Calls Tryz.prog 80 #[.slice ao n c] w fun e w'=>GivesP w w' e (CanonOf (dotsG D)):=by
 have HB0:=hide (below_new w (.cells (PC pv0) 26));have HP0:=hide (pbox_new w pv0);have HS:=hide (hS.below HB0.out);have HD:Hid (D.length=n/\n <= 8796093022207):=⟨hS.len,hS.big⟩;clear hS;go_enter Tryz.func80,Tryz.ntmps80;go_wp2_with fail;refine (cloneD_all ao n c D _ HS.out).mono ?_;rintro e w2 ⟨ao2,c2,rfl,O2⟩;have HO2:=hide O2.below;have hW2:=O2.below.size
 have HW2:Hid (w.heap.size+1 <= w2.heap.size):=by show _ <= _;simpa using hW2
 clear HS hW2;by_cases hn0:n=0
 ·subst hn0;obtain rfl:D=[]:=List.eq_nil_of_length_eq_zero HD.out.1;have HB2:=wTr HB0 HO2.out;have HP2:=hide (HP0.out.below HO2.out);clear O2;go_wp2_with fail;refine (sortD0 ao2 c2 _).mono ?_;rintro e w3 ⟨rfl,rfl⟩
  rename World=>w3
  obtain ⟨B,hB⟩:∃ B,w3.heap.size=B:=⟨_,rfl⟩;have hI0:SI3 w3.heap.size w3 (w3.alloc (.cells (SA fun _=>sl0) 109)) (fun _=>sl0) (dotsG []):=⟨sets_new w3 _,OwnA.nil _ _,fun r _=>rfl,below_new w3 _,by simp⟩;obtain ⟨w4,hw4⟩:∃ w4,w3.alloc (.cells (SA fun _=>sl0) 109)=w4:=⟨_,rfl⟩;rw [hw4,hB] at hI0;have HI:=hide hI0;have HBw:Hid (w3.heap.size=B):=hB;clear hI0;go_wp2_with (go_at_call 131;refine (compact1_any _ 0 c2 _ (by omega)).mono ?_;rintro e w5 ⟨rfl,rfl⟩);clear hw4 hB;go_loopw [14] (fun i wr=>i = .int .i64 0/\wr=w5) (fun _ _=>0)
  case atStart=>exact ⟨rfl,rfl⟩
  case round =>
   obtain ⟨rfl,hwe⟩:=hrel;subst hwe
   rename World=>w4
   have l9:=run_ldA HI.out.s;have HSR:Hid (∀ r,r < 16 -> RSrc w4 ((fun _=>sl0) r:Sl).ao ((fun _=>sl0) r:Sl).n ((fun _=>sl0) r:Sl).cap ((fun _=>sl0) r:Sl).L):=fun r hr=>HI.out.o.src HI.out.h hr (by simp [sl0]);have b36:=hide HI.out.b;go_wp2_with fail;refine (canonical_any (fun _=>sl0) _ HSR.out).mono ?_;rintro e w8 ⟨p,rfl,S2,n2,b2,c2'⟩
   have b38:Below w3.heap.size w3 w8:=by rw [HBw.out];exact b36.out.trans (b2.mono (by have:=HI.out.h;omega))
   obtain ⟨s1,e1,e2,e3,e4⟩:=past_end (w:=w) (HP2.out.below b38) S2 (n2.mono (by have:=HI.out.h;have:=HBw.out;have:=HW2.out;omega)) (HB2.out.trans (b38.mono HB2.out.size)) (Nat.le_refl _);have HE1:=hide e1;have HE2:Hid (GivesP w (w8.setRow w.heap.size (PC p)) (.returned (PV p)) (CanonOf (dotsG []))):=⟨p,rfl,e2,e3,e4,c2'⟩;clear S2 n2 b2 c2' e1 e2 e3 e4 l9 b38;go_wp2_with fail;exact bodyPost_ret (v:=PV p) (resP Tryz.results80 rfl HE1.out) rfl HE2.out
 ·obtain ⟨ad2,rfl⟩:∃ ad2,ao2=some ad2:=by
   cases ao2 with
   | some x=>exact ⟨x,rfl⟩
   | none=>have h1:=(O2.src (by have:=HD.out;omega)).1.nil rfl;have h2:=HD.out;omega
  obtain ⟨M2,hb2,hc2,hm2⟩:=O2.mr;have HM2:=hide M2;have HBL:=hide hb2;have HC2:Hid (n <= c2/\c2 <= maxLen):=⟨by have:=HD.out;omega,hm2⟩;clear O2 M2 hb2 hc2 hm2;go_wp2_with fail;refine (sortD_any ad2 c2 n D.toArray _ HM2.out (by simpa using HD.out.1) HD.out.2).mono ?_;rintro e w3 ⟨rfl,d',hp,hs,M3,b3⟩
  have hbl:w.heap.size+1 <= ad2.block:=by have:=HBL.out;simpa using this
  have HB3:=hide (HB0.out.trans ((HO2.out.trans (b3.mono HBL.out)).mono HB0.out.size));have HP3:=hide (HP0.out.below (HO2.out.trans (b3.mono HBL.out)));have HM3:=hide M3;have Hbl:=hide hbl
  have HMem:Hid (∀ x,x∈compactUpTo d' d'.size↔x∈D):=fun x=>by rw [cmpD_iff];have:=hp.mem_iff (a:=x);simpa using this
  obtain ⟨B,hB⟩:∃ B,w3.heap.size=B:=⟨_,rfl⟩;have hX4:=sets_new w3 (fun _=>sl0);have b34:=below_new w3 (.cells (SA fun _=>sl0) 109);have s4:=World.size_alloc w3 (.cells (SA fun _=>sl0) 109);obtain ⟨w4,hw4⟩:∃ w4,w3.alloc (.cells (SA fun _=>sl0) 109)=w4:=⟨_,rfl⟩;rw [hw4] at hX4 b34 s4;have M4:=M3.on b34;have HC:=hide (compact_any ad2 c2 n d' w4 M4 hs HD.out.2 HC2.out.1 (by have:=HC2.out.2;unfold maxLen at this;omega));have H4:Hid (Sets w4 B (fun _=>sl0)/\Below w3.heap.size w3 w4/\w4.heap.size=B+1/\ad2.block < B/\w3.heap.size=B):=⟨hB ▸ hX4,b34,by rw [s4,hB],by have:=M3.lt;omega,hB⟩;clear hp M3 b3 HM2 HBL HO2 HP0 HB0 hbl hX4 b34 s4 M4;go_wp2_with fail;clear hw4 hB;refine HC.out.mono ?_;rintro e w5 ⟨m,d5,rfl,M5,hm5,hs5,ht5,K5⟩;obtain ⟨C,hCd⟩:∃ C,d5.toList.take m=C:=⟨_,rfl⟩
  have HCm:Hid (C.length=m/\m <= 8796093022207/\∀ x,x∈C↔x∈D):=by
   refine ⟨?_,by have:=HD.out.2;omega,fun x=>?_⟩
   ·rw [<- hCd,List.length_take];simp;omega
   ·rw [<- hCd,ht5];exact HMem.out x
  have HAt:Hid (∀ t,t < m -> RnAt w5 (ad2.add (t * 2)) (C.getD t rn0)):=fun t ht=>by
   have A:=M5.at t (by omega)
   have e:C.getD t rn0=d5[t]! := by
    rw [<- hCd,List.getD_eq_getElem?_getD,List.getElem?_take,if_pos ht,Array.getElem?_toList,Array.getElem?_eq_getElem (by omega),getElem!_pos d5 t (by omega)];rfl
   rw [e];exact A
  have HI0:Hid (SI3 B w5 w5 (fun _=>sl0) (dotsG (C.take 0))):=by
   have h1:=H4.out;have hk:=K5.size;exact ⟨(K5.block B (by omega) (by omega)).trans h1.1,OwnA.nil _ _,fun r _=>rfl,Below.refl _ _,by omega⟩
  have HK5:=hide K5;have hmb:m <= 8796093022207:=HCm.out.2.1;clear M5 hm5 hs5 ht5 hCd K5 HC;go_wp2_with fail;go_loopw [14] (fun i wr=>∃ (k:Nat) (F:Nat -> Sl),k <= m/\i = .int .i64 (k:Int)/\Hid (SI3 B w5 wr F (dotsG (C.take k)))) (fun i _=>m - (intOf i).toNat)
  case atStart=>exact ⟨0,_,Nat.zero_le _,rfl,HI0⟩
  case round =>
   obtain ⟨k,F,hk,rfl,HI⟩:=hrel
   rename World=>w6
   clear HI0;by_cases hlt:k < m
   ·have hlti:(k:Int) < (m:Int):=by omega
    obtain ⟨dd,hdd⟩:∃ dd,C.getD k rn0=dd:=⟨_,rfl⟩;have A5:=HAt.out k hlt;rw [hdd] at A5
    have hlb:(ad2.add (k * 2)).block < B:=by rw [block_add];exact H4.out.2.2.2.1
    have A0:RnAt w6 (ad2.add (k * 2)) dd:=⟨(HI.out.b.cell hlb).trans A5.c0,(HI.out.b.cell (by rw [block_add];exact hlb)).trans A5.c1⟩;have hld:=run_ldD A0
    have HT:Hid (C.take (k+1)=C.take k++[dd]):=by
     show _=_
     rw [List.take_add_one,<- hdd,List.getD_eq_getElem?_getD,List.getElem?_eq_getElem (by have:=HCm.out.1;omega)];rfl
    obtain ⟨g7,hg7⟩:∃ g7,w6.heap.size=g7:=⟨_,rfl⟩;obtain ⟨w7,hst,XD,b7,z7⟩:=madeD w6 dd g7 hg7;replace hst:(stD (.pointer (some ⟨g7,0,none⟩)) (RV dd)).run Tryz.prog (w6.alloc (.cells #[.int .i64 0,.int .i64 0] 43)) = .ok () w7:=hst
    have l7:=run_ldD XD.at
    have HX7:=hide XD;have HI7:=hide (HI.out.on b7)
    have HOC:Hid (Off F g7):=by rw [<- hg7];exact HI.out.o.off w6.heap.size (Or.inr (Nat.le_refl _))
    have HLT:Hid (B+1 <= g7):=by rw [<- hg7];exact HI.out.h
    have HKm:Hid (k+1 <= m):=hlt;clear A5 A0 XD b7 z7 HI hlt hk hlb hdd;go_wp2_with fail;clear hst hg7 hld;refine (isDotP_any dd _).mono ?_;rintro e w8 ⟨rfl,b8⟩;have HI8:=hide (HI7.out.on b8);have HX8:=hide (HX7.out.below b8);obtain ⟨bb,hbb⟩:∃ bb,(V.isR dd.lo && (decide (1 <= dd.hi) && decide (dd.hi <= 1000000000)))=bb:=⟨_,rfl⟩;have Hbb:Hid (okD dd=bb):=hbb;rw [hbb];clear b8 HI7 HX7 l7 hbb
    cases bb with
    | false =>
     have HG:Hid (SI3 B w5 w8 F (dotsG (C.take (k+1)))):=HI8.out.congr (fun r _=>by rw [HT.out,dotsG_snoc,Hbb.out];simp);go_wp2_with fail;go_roundw
     case rel=>exact ⟨k+1,F,HKm.out,by simp,HG.out⟩
     case measure=>simp [intOf];have:=HKm.out;omega
    | true =>
     obtain ⟨y,num,rfl,hy,hn1⟩:∃ (y:Nat) (num:Int),dd=⟨(y:Int),num⟩/\y < 16/\True:=by
      have h:=Hbb.out;unfold okD at h;simp only [Bool.and_eq_true,V.isR,decide_eq_true_eq] at h;obtain ⟨lo,hi⟩:=dd;exact ⟨lo.toNat,hi,by simp only at h;congr 1;omega,by simp only at h;omega,trivial⟩
     have HG:Hid (∀ r,(if r=y then dotsG (C.take k) r++[⟨num,num⟩] else dotsG (C.take k) r)=dotsG (C.take (k+1)) r):=fun r=>by
      rw [HT.out,dotsG_snoc,Hbb.out];by_cases h:r=y
      ·subst h;simp
      ·rw [if_neg h,if_neg (by simp;omega)]
     have HGL:=hide HX8.out.lt;have m0:=HX8.out.at.c0;have m1:w8.cell? ⟨g7,1,none⟩=some (.int .i64 num):=HX8.out.at.c1;dsimp only at m0
     have HLN:Hid ((F y).n < 8796093022207):=by
      have h:=HI8.out.o.len hy;rw [HI8.out.l y hy] at h;have h2:=dotsG_len (C.take k) y;rw [List.length_take] at h2
      show _ < _
      have:=HKm.out;omega
     have c1:=HI8.out.s.cell y hy;obtain ⟨sa,sn,sc,hf⟩:∃ sa sn sc,(F y).ao=sa/\(F y).n=sn/\(F y).cap=sc:=⟨_,_,_,rfl,rfl,rfl⟩;rw [hf.1,hf.2.1,hf.2.2] at c1;have c1n:=((below_new w8 (.cells #[.int .i64 num,.int .i64 num] 159)).cell (World.block_lt_of_cell? _ _ c1)).trans c1;have c1d:=((below_new w8.drew (.cells #[.int .i64 num,.int .i64 num] 159)).cell (p:=⟨B,y,none⟩) (World.block_lt_of_cell? _ _ c1)).trans c1;have HF:=hide hf
     have y0:(0:Int) <= (y:Int):=by omega
     have y1:(y:Int) < 16:=by omega
     have HSW:Hid (∀ W:World,W.heap[g7]? = w8.heap[g7]? -> W.cell? ⟨g7,0,none⟩=some (.int .i64 (y:Int))/\W.cell? ⟨g7,1,none⟩=some (.int .i64 num)):=fun W e1 =>
      ⟨(World.cell?_of_block e1).trans m0,(World.cell?_of_block e1).trans m1⟩
     clear hf hn1;go_wp2_with fail;refine wp_region_held_drew (S:=fun W=>W.cell? ⟨g7,0,none⟩=some (.int .i64 (y:Int))/\W.cell? ⟨g7,1,none⟩=some (.int .i64 num)) (by kernel_rfl) (HSW.out _ rfl) (fun hHeld=>?_);refine wU 0 ?_;refine wU 1 ?_;refine wU 2 ?_;refine wU 3 ?_;refine wU 4 ?_;refine wU 6 ?_;refine wU 7 ?_;refine wU 8 ?_;refine wU 9 ?_;refine wU 10 ?_;refine wpAnyH_ready (rs:=[5,11]) (by kernel_rfl) (by simp) ?_;refine AllReadyH.cons rfl (fun K hK=>?_) ?_
     ·go_simp;refine hK.out _ _ (HSW.out _ rfl) (fun hHeld=>?_);clear hK K;refine wpAnyH_ready (rs:=[11]) (by kernel_rfl) (by simp) (.cons rfl (fun K hK=>?_) .nil);go_simp;refine hK.out _ _ (HSW.out _ (Below.heap_alloc _ _ _ HGL.out)) (fun hHeld=>?_);clear hK K;refine wpAnyH_ready (rs:=[12]) (by kernel_rfl) (by simp) (.cons rfl (fun K hK=>?_) .nil);refine HI8.out.o.step HI8.out.h y hy ⟨num,num⟩ _ (by rfl) HLN.out (by rfl) (.tmp 25) (.tmp 31) (by rfl) sa sn sc HF.out (by rfl) _ (by rfl) (by rfl) ?_;intro g6 c6 w9 O6 h2 h3 h4;have d1:=(HI8.out.mid h2).cell y hy;have d2:=(HI8.out.mid h2).frozen y;have HP:=hide (HI8.out.push y hy ⟨num,num⟩ sn c6 g6 O6 h2 h3 h4 _ rfl);have HK2:=hide (keep_off (B:=B) (k:=y) (v:=.slice (some ⟨g6,0,none⟩) (sn+1) c6) h2 HGL.out HOC.out (by have:=HLT.out;omega)).1;refine hK.out _ _ (HSW.out _ (h2 _ HGL.out HOC.out).1) (fun hHeld=>?_)
      clear hK K;refine wU 13 ?_;refine wpAnyH_ready (rs:=[14]) (by kernel_rfl) (by simp) (.cons rfl (fun K hK=>?_) .nil);go_simp;refine hK.out _ _ (HSW.out _ HK2.out) (fun hHeld=>?_);clear hK K;refine wpAnyH_done (by kernel_rfl) ?_ _;clear hHeld O6 h2 h3 h4;go_wp2_with fail;go_roundw
      case rel=>exact ⟨k+1,_,HKm.out,by simp,HP.out.congr (fun r hr=>HG.out r)⟩
      case measure=>simp [intOf];have:=HKm.out;omega
     ·refine AllReadyH.cons rfl (fun K hK=>?_) ?_;rotate_left
      ·exact AllReadyH.nil
      go_simp;refine hK.out _ _ (HSW.out _ (Below.heap_alloc _ _ _ HGL.out)) (fun hHeld=>?_);clear hK K;refine wpAnyH_ready (rs:=[5]) (by kernel_rfl) (by simp) (.cons rfl (fun K hK=>?_) .nil);go_simp;refine hK.out _ _ (HSW.out _ (Below.heap_alloc _ _ _ HGL.out)) (fun hHeld=>?_);clear hK K;refine wpAnyH_ready (rs:=[12]) (by kernel_rfl) (by simp) (.cons rfl (fun K hK=>?_) .nil);refine HI8.out.o.step HI8.out.h y hy ⟨num,num⟩ _ (by rfl) HLN.out (by rfl) (.tmp 25) (.tmp 31) (by rfl) sa sn sc HF.out (by rfl) _ (by rfl) (by rfl) ?_;intro g6 c6 w9 O6 h2 h3 h4;have d1:=(HI8.out.mid h2).cell y hy;have d2:=(HI8.out.mid h2).frozen y;have HP:=hide (HI8.out.push y hy ⟨num,num⟩ sn c6 g6 O6 h2 h3 h4 _ rfl);have HK2:=hide (keep_off (B:=B) (k:=y) (v:=.slice (some ⟨g6,0,none⟩) (sn+1) c6) h2 HGL.out HOC.out (by have:=HLT.out;omega)).1;refine hK.out _ _ (HSW.out _ (h2 _ HGL.out HOC.out).1) (fun hHeld=>?_)
      clear hK K;refine wU 13 ?_;refine wpAnyH_ready (rs:=[14]) (by kernel_rfl) (by simp) (.cons rfl (fun K hK=>?_) .nil);go_simp;refine hK.out _ _ (HSW.out _ HK2.out) (fun hHeld=>?_);clear hK K;refine wpAnyH_done (by kernel_rfl) ?_ _;clear hHeld O6 h2 h3 h4;go_wp2_with fail;go_roundw
      case rel=>exact ⟨k+1,_,HKm.out,by simp,HP.out.congr (fun r hr=>HG.out r)⟩
      case measure=>simp [intOf];have:=HKm.out;omega
   ·have hlti:¬ (k:Int) < (m:Int):=by omega
    obtain rfl:k=m:=by omega
    have l9:=run_ldA HI.out.s
    have HSR:Hid (∀ r,r < 16 -> RSrc w6 (F r).ao (F r).n (F r).cap (F r).L):=fun r hr=>HI.out.o.src HI.out.h hr (by
     have h:=HI.out.o.len hr;rw [HI.out.l r hr] at h;have h2:=dotsG_len (C.take k) r;rw [List.length_take] at h2
     omega)
    have HFL:Hid (∀ r,r < 16 -> (F r).L=dotsG C r):=fun r hr=>by rw [HI.out.l r hr,List.take_of_length_le (by have:=HCm.out.1;omega)]
    have b56:=hide HI.out.b;have Hh:=hide HI.out.h;go_wp2_with fail;refine (canonical_any F _ HSR.out).mono ?_;rintro e w8 ⟨p,rfl,S2,n2,b2,c2'⟩;have h4:=H4.out;have b68:Below B w5 w8:=b56.out.trans (b2.mono (by have:=Hh.out;omega));have b48:Below (w.heap.size+1) w4 w8:=(Kd.below (Below.refl _ _) HK5.out (by have:=Hbl.out;omega) (by have:=Hbl.out;omega)).trans (b68.mono (by have:=Hbl.out;omega));have b38:Below (w.heap.size+1) w3 w8:=(h4.2.1.mono (by have:=Hbl.out;omega)).trans b48;obtain ⟨s1,e1,e2,e3,e4⟩:=past_end (w:=w) ((b38.block w.heap.size (by omega)).trans HP3.out) S2 (n2.mono (by have:=Hh.out;have:=Hbl.out;omega)) (HB3.out.trans (b38.mono (by omega))) (Nat.le_refl _);have HE1:=hide e1
    have HE2:Hid (GivesP w (w8.setRow w.heap.size (PC p)) (.returned (PV p)) (CanonOf (dotsG D))):=⟨p,rfl,e2,e3,e4,canonOf_mem (c2'.congr HFL.out) (fun r _ n=>by
     rw [dotsG_mem,dotsG_mem];have hm:=HCm.out.2.2;constructor
     ·rintro ⟨d,hd,h⟩;exact ⟨d,(hm d).1 hd,h⟩
     ·rintro ⟨d,hd,h⟩;exact ⟨d,(hm d).2 hd,h⟩)⟩
    clear S2 n2 b2 c2' e1 e2 e3 e4 l9 b38 b48 b68 h4;go_wp2_with fail;exact bodyPost_ret (v:=PV p) (resP Tryz.results80 rfl HE1.out) rfl HE2.out
end
end Go.Proofs.YtaphmhbmhcahaaaGreat
