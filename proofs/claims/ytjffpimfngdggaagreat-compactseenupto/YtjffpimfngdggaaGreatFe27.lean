/- LMr LOnc LCpt LCp -/
import Derived.Test.YtjffpimfngdggaaGreatFe26
import Derived.Shelf.SlicesQ.Reverse
import Derived.Lib.OwnBridge
import Derived.Test.YtjffpimfngdggaaGreatFe17
import Derived.Deep.LoopGhost
set_option maxRecDepth 100000
set_option maxHeartbeats 8000000
namespace Go.Proofs.YtjffpimfngdggaaGreat.K
section
open Go.RowKit Go.Sort

def cX (e:En):List Value:=(EC e).toList
theorem wl (e:En):(cX e).length=4:=rfl
structure MR (W:World) (ad:Addr) (d:Array En):Prop where
 hk:HoldsK cX 4 W ad.block 0 d
 lt:ad.block < W.heap.size
 ha:ad=⟨ad.block,0,none⟩
theorem MR.at {W:World} {ad:Addr} {d:Array En} (M:MR W ad d) (i:Nat) (hi:i < d.size):gR W (ad.add (i * 4)) d[i]! := by
 have h:∀ c,c < 4 -> W.cell? ⟨ad.block,i * 4+c,none⟩=some (cX d[i]!)[c]! := fun c hc=>by
  have:=(M.hk.cell hi hc).1;rwa [Nat.zero_add] at this
 rw [M.ha,Addr.add_lit,Nat.zero_add];exact ⟨h 0 (by omega),by rw [Addr.add_lit];exact h 1 (by omega),by rw [Addr.add_lit];exact h 2 (by omega),by rw [Addr.add_lit];exact h 3 (by omega)⟩
theorem MR.on {W W':World} {ad:Addr} {d:Array En} (M:MR W ad d) (hb:Below W.heap.size W W'):MR W' ad d:=
 ⟨fun j hj=>by rw [hb.cell (p:=⟨ad.block,0+j,none⟩) M.lt,hb.frozen (p:=⟨ad.block,0+j,none⟩) M.lt];exact M.hk j hj,Nat.lt_of_lt_of_le M.lt hb.size,M.ha⟩
theorem kT (d:Array En) (i:Nat) (e:En) (hi:i < d.size):setMany (flatK cX 4 d) (i * 4) (cX e)=flatK cX 4 (d.setIfInBounds i e):=by
 refine ext_get! (by simp) fun t ht=>?_
 have tf:t < d.size * 4:=by simpa using ht
 rw [get_setMany _ _ _ t (by simpa using tf),get_flatK _ _ _ t tf,get_flatK _ _ _ t (by simpa using tf),wl];by_cases a:t / 4=i
 ·rw [if_pos ((blk_iff 4 i t (by omega)).2 a),a,getElem!_set_same d i e hi,show t - i * 4=t % 4 by omega]
 ·rw [if_neg (fun h=>a ((blk_iff 4 i t (by omega)).1 h)),getElem!_set_other d i _ e a]
theorem zbx (W:World) (g:Nat) (F:Array Value):Below g W (putRow id W g 0 F):=Lib.below_putRow (q:=0) (Below.refl g W) (Nat.le_refl _)
theorem MR.setCells {W:World} {ad:Addr} {d:Array En} (M:MR W ad d) (i:Nat) (e:En) (hi:i < d.size) :
  W.setCells ad.block (i * 4) (cX e)=putRowK cX 4 W ad.block 0 (d.setIfInBounds i e):=by
 have h1:=putRowK_self cX 4 W ad.block 0 d M.hk;have h2:=setCells_putRow W ad.block 0 (cX e) (i * 4) (flatK cX 4 d) (by rw [wl,size_flatK];have:=Nat.mul_le_mul_right 4 (show i+1 <= d.size from hi);omega);unfold putRowK at h1;rw [h1,kT d i e hi,Nat.zero_add] at h2;exact h2
theorem MR.store {W:World} {ad:Addr} {d:Array En} (M:MR W ad d) (i:Nat) (e:En) (hi:i < d.size) :
  ∃ W':World,(mO (.pointer (some (ad.add (i * 4)))) (EV e)).run Tryz.prog W = .ok () W'/\MR W' ad (d.setIfInBounds i e)/\Below ad.block W W'/\W'.heap.size=W.heap.size:=by
 have hs:=stores_of_holds Tryz.prog (W:=W) (blk:=ad.block) (off:=0) (F:=flatK cX 4 d) M.hk (i * 4) (cX e) (by rw [wl,size_flatK];have:=Nat.mul_le_mul_right 4 (show i+1 <= d.size from hi);omega) (bk e);rw [Nat.zero_add,M.setCells i e hi] at hs;refine ⟨_,?_,⟨holdsK_putRowK cX 4 W ad.block 0 d _ M.hk (by simp),by show ad.block < (putRow id W ad.block 0 _).heap.size;rw [size_putRow];exact M.lt,M.ha⟩,zbx W ad.block _,size_putRow _ _ _ _ _⟩;have ha:=M.ha;rw [ha,Addr.add_lit,Nat.zero_add];unfold mO
 cases hq:Tryz.prog.info? 50 with
 | none=>have:=il;simp [hq] at this
 | some x =>
  have hz:x.size=4:=by have:=il;simpa [hq] using this
  have Ip:(storeCells ⟨ad.block,i * 4,none⟩ (EC e).toList 0).run Tryz.prog W = .ok () (putRowK cX 4 W ad.block 0 (d.setIfInBounds i e)):=hs;simp only [Instr.storeAt,Instr.sureAddr,Sem.run_bind,Sem.run_pure,Result.andThen,storeVar,sizeOf,typeInfo,zt,zF];simp [Ip,hq,hz]
theorem kU (d:Array En):∀ (xs:List En) (i:Nat),i+xs.length <= d.size -> setMany (flatK cX 4 d) (i * 4) (xs.map cX).flatten=flatK cX 4 (Lib.lay d i xs)
 | [],_,_=>rfl
 | x :: r,i,h=>by
  have hi:i < d.size:=by simp at h;omega
  have key:∀ (F:Array Value) (s:Nat) (a b:List Value),setMany F s (a++b)=setMany (setMany F s a) (s+a.length) b:=by
   intro F s a
   induction a generalizing F s with
   | nil=>intro b;rfl
   | cons v a ih=>intro b;simp only [List.cons_append,setMany,List.length_cons];rw [ih,show s+1+a.length=s+(a.length+1) by omega]
  rw [List.map_cons,List.flatten_cons,key,kT d i x hi,wl,show i * 4+4=(i+1) * 4 by omega];exact kU (d.setIfInBounds i x) r (i+1) (by simp at h ⊢;omega)
theorem BK (w:World):(zeroValue 50).run Tryz.prog w = .ok (EV en0) w:=Tryz.zeroValue50 w
theorem rI (n:Nat):(Builtin.zeroCells (EC en0) n).toList=((List.replicate n en0).map cX).flatten:=by
 show _=ecs (List.replicate n en0)
 apply List.ext_getElem?;intro t;by_cases ht:t < n * 4
 ·have h2:=zcZ (List.replicate n en0) (t / 4) (t % 4) (by simp;omega) (by omega);rw [show t / 4 * 4+t % 4=t by omega] at h2
  have hg:(List.replicate n en0).getD (t / 4) en0=en0:=by simp [List.getD,show t / 4 < n by omega]
  rw [h2,hg]
  have h1:(Builtin.zeroCells (EC en0) n).toList[t]? = some ((EC en0)[t % 4]!):=by simp [Builtin.zeroCells,zF,ht]
  rw [h1]
  have:t % 4=0∨t % 4=1∨t % 4=2∨t % 4=3:=by omega
  rcases this with h | h | h | h <;> rw [h] <;> rfl
 ·rw [List.getElem?_eq_none (by simp [Builtin.zeroCells,zF];omega),List.getElem?_eq_none (by rw [jt];simp;omega)]
theorem kO (d:Array En):∀ (xs:List En) (k:Nat),(Lib.lay d k xs).size=d.size:=by
 intro xs
 induction xs generalizing d with
 | nil=>intro k;rfl
 | cons x r ih=>intro k;rw [Lib.lay,ih];simp
theorem MR.clear {W:World} {ad:Addr} {d:Array En} (M:MR W ad d) (kk:Nat) (hk:kk < d.size) (c:Nat) :
  ∃ (W':World) (d':Array En),(∀ ty,(Builtin.clear_ #[22] ty #[.slice (some (ad.add (kk * 4))) (d.size - kk) c]).run Tryz.prog W = .ok (.tuple #[]) W')/\MR W' ad d'/\d'.size=d.size/\(∀ j,j < kk -> d'[j]! = d[j]!)/\Below ad.block W W'/\W'.heap.size=W.heap.size:=by
 obtain ⟨m,hm⟩:∃ m,d.size - kk=m:=⟨_,rfl⟩;have h1:=putRowK_self cX 4 W ad.block 0 d M.hk
 have cF:(((List.replicate m en0).map cX).flatten).length=m * 4:=by
  have:=jt (List.replicate m en0);rwa [List.length_replicate] at this
 have hs:=stores_of_holds Tryz.prog (W:=W) (blk:=ad.block) (off:=0) (F:=flatK cX 4 d) M.hk (kk * 4) ((List.replicate m en0).map cX).flatten (by rw [cF,size_flatK];omega) (by
  intro v hv;obtain ⟨l,hl,hv⟩:=List.mem_flatten.1 hv;obtain ⟨e,_,rfl⟩:=List.mem_map.1 hl
  exact bk e v hv)
 have h2:=setCells_putRow W ad.block 0 ((List.replicate m en0).map cX).flatten (kk * 4) (flatK cX 4 d) (by rw [cF,size_flatK];omega);unfold putRowK at h1;rw [h1,kU d (List.replicate m en0) kk (by simp;omega),Nat.zero_add] at h2;rw [Nat.zero_add,h2] at hs;refine ⟨_,Lib.lay d kk (List.replicate m en0),fun ty=>?_,⟨holdsK_putRowK cX 4 W ad.block 0 d _ M.hk (kO _ _ _),by show ad.block < (putRow id W ad.block 0 _).heap.size;rw [size_putRow];exact M.lt,M.ha⟩,kO _ _ _,fun j hj=>?_,zbx W ad.block _,size_putRow _ _ _ _ _⟩
 ·have ha:=M.ha;rw [ha,Addr.add_lit,Nat.zero_add,hm];obtain ⟨m',rfl⟩:∃ m',m=m'+1:=⟨m - 1,by omega⟩;have hz:=BK W;simp [Builtin.clear_,run_underlying Tryz.underlying22,hz];rw [zt,rI,hs];rfl
 ·have:=Lib.lay_get? (List.replicate m en0) d kk j (by simp;omega);rw [if_neg (by omega)] at this;rw [getElem!_def,getElem!_def,this]
def lW (w w':World):Prop:=∃ q os,w'=grow (w.drewN q) os
theorem zb4 (w:World) (a b c:Obj):lW w (((w.alloc a).alloc b).drew.alloc c):=by
 refine ⟨1,#[a]++#[b]++#[c],?_⟩;rw [alloc_eq_grow ((w.alloc a).alloc b).drew c,alloc_eq_grow (w.alloc a) b,alloc_eq_grow w a,grow_grow,drew_grow,grow_grow];rfl
theorem zaD (x y:En) (w:World):Calls Tryz.prog 104 #[enV x,enV y] w fun e w'=>e = .returned (.int .i64 (byD x y))/\lW w w':=by
 have T0:=hide (Two.start w x y);obtain ⟨w0,mU⟩:∃ w0,Hid ((w.alloc (.cells #[.int .i64 x.rep,.int .i64 x.num,.string x.sku,.int .i64 x.qty] 50)).alloc (.cells #[.int .i64 y.rep,.int .i64 y.num,.string y.sku,.int .i64 y.qty] 50)=w0):=⟨_,rfl⟩;rw [mU.out] at T0;have c1:=T0.out.a0;have c2:=T0.out.a1;have c3:=T0.out.b0;have c4:=T0.out.b1;obtain ⟨p,Hp⟩:∃ p,Hid (au x.rep y.rep=p):=⟨_,rfl⟩;obtain ⟨q,Hq⟩:∃ q,Hid (au x.num y.num=q):=⟨_,rfl⟩
 have C1:Hid (∀ W,Calls Tryz.prog 138 #[.int .i64 x.rep,.int .i64 y.rep] W fun e w'=>e = .returned (.int .i64 p)/\w'=W):=fun W=>by rw [<- Hp.out];exact qA _ _ W
 have C2:Hid (∀ W,Calls Tryz.prog 138 #[.int .i64 x.num,.int .i64 y.num] W fun e w'=>e = .returned (.int .i64 q)/\w'=W):=fun W=>by rw [<- Hq.out];exact qA _ _ W
 have HF:Hid (or2 p q=byD x y):=by show _=_;unfold byD;rw [Hp.out,Hq.out]
 have T1:Hid (Two w (w0.drew.alloc (.cells #[.int .i64 p,.int .i64 q] 3)) x y):=(T0.out.on (bf (Below.refl _ _))).on (ze _ _);have HO:=hide (zht p q w0.drew w0.heap.size rfl)
 have HG:Hid (lW w (w0.drew.alloc (.cells #[.int .i64 p,.int .i64 q] 3))):=by rw [<- mU.out];exact zb4 _ _ _ _
 obtain ⟨r,m,s,q⟩:=x;obtain ⟨r',m',s',q'⟩:=y;go_enter Tryz.func104,Tryz.ntmps104;go_wp2_with fail;rw [mU.out]
 first | (go_region_held (fun W=>W.cell? ⟨w.heap.size,0,none⟩=some (.int .i64 r)/\W.cell? ⟨w.heap.size,1,none⟩=some (.int .i64 m)/\W.cell? ⟨w.heap.size+1,0,none⟩=some (.int .i64 r')/\W.cell? ⟨w.heap.size+1,1,none⟩=some (.int .i64 m')) (first | exact ⟨T1.out.a0,T1.out.a1,T1.out.b0,T1.out.b1⟩ | go_keep) (first | (go_at_call_of 138 r;refine (C1.out _).mono ?_;rintro e w' ⟨rfl,rfl⟩) | (go_at_call_of 138 m;refine (C2.out _).mono ?_;rintro e w' ⟨rfl,rfl⟩) | (go_at_call 137;refine HO.out.mono ?_;rintro e w' ⟨rfl,rfl⟩))) | fail
 all_goals (go_wp2_with fail)
 all_goals go_ret
 all_goals exact ⟨zH HF.out,HG.out⟩
theorem vR (x y:En):ltOf byD x y=ahead x y:=by
 unfold ltOf byD or2 au ahead;by_cases h1:x.rep < y.rep
 ·simp [h1]
 ·by_cases h2:y.rep < x.rep
  ·have:¬ x.rep=y.rep:=by omega
   simp [h1,h2,this]
  ·have e:x.rep=y.rep:=by omega
   by_cases h3:x.num < y.num
   ·simp [e,h3]
   ·by_cases h4:y.num < x.num <;> simp [e,h3,h4]
theorem zcf:SWO (ltOf byD) where
 irrefl x:=by rw [vR];exact vq x
 trans x y z h1 h2:=by rw [vR] at *;exact yy h1 h2
 ntrans x y z h1 h2:=by rw [vR] at *;simp [ahead] at *;omega
theorem lS (blk size:Nat) (w:World):CmpLays Tryz.prog 104 #[] cX 4 byD blk 0 size w:=
 fun _ _ _ _ x y=>zaD x y _
theorem jI (ad:Addr) (cap n:Nat) (d:Array En) (w:World) (M:MR w ad d) (hn:d.size=n) (hb:n <= 3518437208883) :
  Calls Tryz.prog 234 #[.slice (some ad) n cap,.func (.func 104) #[] #[]] w fun e w'=>e = .returned (.tuple #[])/\∃ d',d'.toList.Perm d.toList/\d'.toList.Pairwise (fun x y=>leE x y=true)/\MR w' ad d'/\Below ad.block w w':=by
 subst hn;have eg:∀ args w,(callFunc 104 args).run Tryz.prog w = .ok (.enter 104 args) w:=enters_of Tryz.func104 (by kernel_rfl) rfl;have h:=AnyQ.slices_SortFunc Tryz.sortEn 4 Tryz.isAgg50 Tryz.sizeOf50 cX (fun _=>rfl) (fun x v hv=>bk x v hv) byD zcf 104 #[] ad.block 0 cap d w eg (lS ad.block d.size w) M.hk M.lt (by omega);rw [<- M.ha] at h;refine Calls.mono h ?_;rintro e w' ⟨rfl,d',m,os,⟨hs,_,hp⟩,As,rfl⟩;refine ⟨rfl,d',?_,?_,⟨holdsK_sortWorldK_c cX 4 w ad.block 0 d d' m os M.hk M.lt hs,?_,M.ha⟩,?_⟩
 ·have e1:d'.extract 0 d.size=d':=by rw [<- hs];simp
  have e2:d.extract 0 d.size=d:=by simp
  rwa [e1,e2] at hp
 ·rw [List.pairwise_iff_getElem];intro i j hi hj pt;have:=As i j (Nat.zero_le _) pt (by rw [<- hs];simpa using hj);rw [vR] at this;rw [getElem!_pos d' j (by simpa using hj),getElem!_pos d' i (by simpa using hi)] at this;simp only [Array.getElem_toList];unfold leE;rw [this];rfl
 ·have:=M.lt
  show ad.block < (grow (putRow id (Sort.ahead w m) ad.block 0 (flatK cX 4 d')) os).heap.size
  show ad.block < ((putRow id (Sort.ahead w m) ad.block 0 (flatK cX 4 d')).heap++os).size
  rw [Array.size_append,size_putRow]
  show ad.block < w.heap.size+os.size
  omega
 ·have h1:Below ad.block w (putRow id (Sort.ahead w m) ad.block 0 (flatK cX 4 d')):=Lib.below_putRow (Below.refl _ _) (Nat.le_refl _);refine h1.trans ?_
  have dP:ad.block <= (putRow id (Sort.ahead w m) ad.block 0 (flatK cX 4 d')).heap.size:=by rw [size_putRow];exact Nat.le_of_lt M.lt
  show Below ad.block _ (grow (putRow id (Sort.ahead w m) ad.block 0 (flatK cX 4 d')) os)
  generalize putRow id (Sort.ahead w m) ad.block 0 (flatK cX 4 d')=V at dP;exact ⟨rfl,rfl,rfl,by show _ <= (V.heap++os).size;rw [Array.size_append];omega,fun k hk=>by show (V.heap++os)[k]? = _;rw [Array.getElem?_append_left (by omega)]⟩
end
section
open Go.RowKit
attribute [local go_sem ↓] zx zw xE
attribute [local go_sem] zI zt zF xu
theorem xP (x y:En) (w:World):(Op.equalIn 10000 48 (.agg (DC x)) (.agg (DC y))).run Tryz.prog w = .ok (al x y) w:=by
 have u3:=Tryz.underlying3;have a3:=Tryz.isAgg3;have z3:=Tryz.sizeOf3
 have hS:Tryz.prog.underlying 48=some (.struct (Tryz.prog.fieldsOf 48)):=by kernel_rfl
 have hp:Tryz.prog.stoodInHeld 48=false:=by kernel_rfl
 obtain ⟨a,b,_,_⟩:=x;obtain ⟨c,d,_,_⟩:=y
 show (Op.equalIn 10000 48 (.agg #[.int .i64 a,.int .i64 b]) (.agg #[.int .i64 c,.int .i64 d])).run Tryz.prog w = .ok (a == c && b == d) w
 rw [show (10000:Nat)=9999+1 from rfl,run_equalIn_struct w 9999 48 _ _ hS hp];simp only [Program.fieldsOf,Tryz.underlying48];go_simp;by_cases h1:a=c <;> by_cases h2:b=d <;> simp [h1,h2]
attribute [local go_sem ↓] qz xP
theorem kq (x y:En):eqE x y=true↔x=y:=by
 constructor
 ·intro h;obtain ⟨a,b,s,c⟩:=x;obtain ⟨a',b',s',c'⟩:=y;simp only [eqE,Bool.and_eq_true,beq_iff_eq] at h;obtain ⟨⟨⟨rfl,rfl⟩,h3⟩,rfl⟩:=h
  have:s=s':=by
   rw [ByteArray.toList_eq,ByteArray.toList_eq] at h3
   cases s;cases s';simp at h3;simp [h3]
  rw [this]
 ·rintro rfl;exact kV _
def oa (w w':World) (e:Ending) (L:List En):Prop:=∃ ao n c R er,e = .returned (.tuple #[.slice ao n c,.int .i64 er])/\aD w' ao n c R/\Below w.heap.size w w'/\(∀ ad,ao=some ad -> w.heap.size <= ad.block)/\dB L R er
end
section
open Go.RowKit Go.Lib
attribute [local go_sem ↓] zx zw qz
attribute [local go_sem] zI zt zF
theorem qC (p:Addr) (i j:Nat):(p.add i).add j=p.add (i+j):=by
 unfold Addr.add;split <;> split <;> simp_all [Nat.add_assoc]
def EX (a:Value):Sem Value:=Builtin.clear_ #[22] 0 #[a]
theorem zim (a:Value):Builtin.clear_ #[22] 0 #[a]=EX a:=rfl
attribute [local go_sem ↓] zim
def dL (w w':World) (e:Ending) (ad:Addr) (cap:Nat) (d:Array En):Prop:=
 ∃ k d',e = .returned (.slice (some ad) k cap)/\MR w' ad d'/\k <= d.size/\d'.size=d.size/\d'.toList.take k=compactUpTo d d.size/\Below ad.block w w'
theorem xY {w w':World} {ad:Addr} {cap n:Nat} {d:Array En} (hn:d.size=n) (M:MR w' ad d) (hb:Below ad.block w w') (aR:∀ j,j < d.size -> keeps d j=true):dL w w' (.returned (.slice (some ad) n cap)) ad cap d:=
 ⟨n,d,rfl,M,by omega,rfl,by rw [compactUpTo_all d _ aR,range_map_get,List.take_of_length_le (by simp;omega)],hb⟩
theorem zar {d dk d':Array En} {n kk:Nat} (hI:CompInv d n kk dk) (hn:d.size=n) (hs:d'.size=dk.size) (hl:∀ j,j < kk -> d'[j]! = dk[j]!):d'.toList.take kk=compactUpTo d d.size:=by
 rw [hn];have nh:=hI.lt;have dP:=hI.size;apply List.ext_getElem?;intro j;by_cases hj:j < kk
 ·rw [hI.low j hj,<- hl j hj,List.getElem?_take,if_pos hj,Array.getElem?_toList,Array.getElem?_eq_getElem (by omega),getElem!_pos d' j (by omega)]
 ·rw [List.getElem?_eq_none (by rw [List.length_take];omega),List.getElem?_eq_none (by rw [hI.len];omega)]
theorem ks (ad:Addr) (cap n:Nat) (d:Array En) (w:World) (M:MR w ad d) (hn:d.size=n) (hb:n <= 3518437208883) (mE:n <= cap) (eV:cap <= 9223372036854775807) :
  Calls Tryz.prog 235 #[.slice (some ad) n cap] w fun e w'=>dL w w' e ad cap d:=by
 have HM:=hide M;have HN:=hide hn;have pl:Hid (ad.block <= w.heap.size):=Nat.le_of_lt M.lt;clear M hn;by_cases h2:n < 2
 ·have HF:Hid (dL w w (.returned (.slice (some ad) n cap)) ad cap d):=xY HN.out HM.out (Below.refl _ _) (fun j hj=>keeps_lt_one d j (by have:=HN.out;omega));go_enter Tryz.func235,Tryz.ntmps235;go_wp2_with fail;go_ret;exact HF.out
 ·go_enter Tryz.func235,Tryz.ntmps235;go_wp2_with fail;go_loopg [3] n (fun g s wr=>∃ k:Nat,1 <= k/\k <= n/\n - k <= g/\s = .int .i64 k/\Hid (Below w.heap.size w wr/\∀ j,j < k -> keeps d j=true))
  case atStart=>exact ⟨1,Nat.le_refl _,by omega,by omega,rfl,Below.refl _ _,keeps_lt_one d⟩
  case round =>
   obtain ⟨k,gY,hk,hg,rfl,H⟩:=hrel
   rename World=>w4
   have lh:=hide (HM.out.on H.out.1);by_cases ak:k < n
   ·obtain ⟨j,hj⟩:∃ j,k - 1=j:=⟨_,rfl⟩
    have hz:IntKind.i64.wrap ((k:Int) - 1)=(j:Int):=by rw [IntKind.wrap_i64];omega
    have od:j < n:=by omega
    have A0:=hide (lh.out.at k (by rw [HN.out];exact ak));have A1:=hide (lh.out.at j (by rw [HN.out];exact od));obtain ⟨x,Hx⟩:∃ x,Hid (d[k]! = x):=⟨_,rfl⟩;obtain ⟨y,Hy⟩:∃ y,Hid (d[j]! = y):=⟨_,rfl⟩;rw [Hx.out] at A0;rw [Hy.out] at A1;have Hj:=hide hj;clear hj;have l0:∀ d os,(ek (.pointer (some (ad.add (k * 4))))).run Tryz.prog (Sort.grow (redrawn w4 d) os) = .ok (EV x) (Sort.grow (redrawn w4 d) os):=fun d os=>zO (A0.out.on (below_regrown w4 d os));have l1:∀ d os,(ek (.pointer (some (ad.add (j * 4))))).run Tryz.prog (Sort.grow (redrawn w4 d) os) = .ok (EV y) (Sort.grow (redrawn w4 d) os):=fun d os=>zO (A1.out.on (below_regrown w4 d os));obtain ⟨q,hq⟩:∃ q,eqE x y=q:=⟨_,rfl⟩
    cases q with
    | false =>
     have HK:Hid (keeps d k=true):=keeps_pos (by rw [Hj.out,Hx.out,Hy.out];intro h;rw [(kq x y).2 h] at hq;cases hq);go_wp2_with fail;refine wp_region_quiet_below (by kernel_rfl) (by kernel_rfl) ?_
     repeat (with_reducible (refine wpQuiet_step ?_);intro K hK;go_simp;(try rw [if_neg (by unfold undef;simp)]);first | (with_reducible (refine hK _ ?_);clear hK K) | (apply Exists.intro;refine ⟨fun _=>?_,hK _ ?_⟩;(fail);clear hK K))
     with_reducible (refine wpQuiet_nil ?_)
     intro w5 hw';obtain ⟨⟨dq,osq⟩,hw''⟩:=hw'
     have b5:Below w4.heap.size w4 w5:=by rw [hw''];exact below_regrown w4 dq osq
     clear hw'' dq osq
     have H5:Hid (Below w.heap.size w w5/\∀ j,j < k+1 -> keeps d j=true):=⟨H.out.1.trans (b5.mono H.out.1.size),fun i hi=>by
      by_cases e:i=k
      ·rw [e];exact HK.out
      ·exact H.out.2 i (by omega)⟩
     clear b5 l0 l1;go_wp2_with fail;go_roundg (n - (k+1))
     case measure=>omega
     case rel=>exact ⟨k+1,by omega,by omega,Nat.le_refl _,by go_num,H5⟩
    | true =>
     have HK:Hid (keeps d k=false):=keeps_neg (by omega) (by rw [Hj.out,Hx.out,Hy.out];exact (kq x y).1 hq);go_wp2_with fail;refine wp_region_quiet_below (by kernel_rfl) (by kernel_rfl) ?_
     repeat (with_reducible (refine wpQuiet_step ?_);intro K hK;go_simp;(try rw [if_neg (by unfold undef;simp)]);first | (with_reducible (refine hK _ ?_);clear hK K) | (apply Exists.intro;refine ⟨fun _=>?_,hK _ ?_⟩;(fail);clear hK K))
     with_reducible (refine wpQuiet_nil ?_)
     intro w5 hw';obtain ⟨⟨dq,osq⟩,hw''⟩:=hw'
     have b5:Below w4.heap.size w4 w5:=by rw [hw''];exact below_regrown w4 dq osq
     clear hw'' dq osq;have C9:=hide (lh.out.on b5);have dO:Hid (Below ad.block w w5):=(H.out.1.mono pl.out).trans (b5.mono (Nat.le_trans pl.out H.out.1.size));have po:Hid (CompInv d (k+1) k d):=CompInv.start H.out.2 HK.out;clear b5 l0 l1 hq;go_wp2_with fail;go_loopg [3,5] n (fun g s3 s5 wr=>∃ (kk k2:Nat) (dk:Array En),1 <= k2/\k+k2 <= n/\kk < n/\n - (k+k2) <= g/\s3 = .int .i64 kk/\s5 = .int .i64 k2/\Hid (MR wr ad dk/\CompInv d (k+k2) kk dk/\Below ad.block w wr))
     case atStart=>exact ⟨k,1,d,Nat.le_refl _,by omega,ak,by omega,rfl,rfl,C9.out,po.out,dO.out⟩
     case round =>
      obtain ⟨kk,k2,dk,oq,Cf,nh,mC,rfl,rfl,HI⟩:=hrel
      rename World=>w6
      clear C9 po dO lh A0 A1;have HD:Hid (dk.size=n):=HI.out.2.1.size.trans HN.out;by_cases hlt2:k2 < n - k
      ·obtain ⟨j2,IQ⟩:∃ j2,k2 - 1=j2:=⟨_,rfl⟩
       have ee:IntKind.i64.wrap ((k2:Int) - 1)=(j2:Int):=by rw [IntKind.wrap_i64];omega
       have Ho:j2 < n - k:=by omega
       have A0:=hide (HI.out.1.at (k+k2) (by rw [HD.out];omega));have A1:=hide (HI.out.1.at (k+j2) (by rw [HD.out];omega));have IC:=HI.out.2.1.lt;obtain ⟨u,Hu⟩:∃ u,Hid (d[k+k2]! = u):=⟨_,rfl⟩;obtain ⟨v,Hv⟩:∃ v,Hid (d[k+j2]! = v):=⟨_,rfl⟩;rw [HI.out.2.1.high (k+k2) (by omega),Hu.out,Nat.add_mul,<- qC] at A0;rw [HI.out.2.1.high (k+j2) (by omega),Hv.out,Nat.add_mul,<- qC] at A1
       have Du:Hid (k+k2 - 1=k+j2):=by show _=_;omega
       clear IQ;have l0:∀ d os,(ek (.pointer (some ((ad.add (k * 4)).add (k2 * 4))))).run Tryz.prog (Sort.grow (redrawn w6 d) os) = .ok (EV u) (Sort.grow (redrawn w6 d) os):=fun d os=>zO (A0.out.on (below_regrown w6 d os));have l1:∀ d os,(ek (.pointer (some ((ad.add (k * 4)).add (j2 * 4))))).run Tryz.prog (Sort.grow (redrawn w6 d) os) = .ok (EV v) (Sort.grow (redrawn w6 d) os):=fun d os=>zO (A1.out.on (below_regrown w6 d os));obtain ⟨q2,oZ⟩:∃ q2,eqE u v=q2:=⟨_,rfl⟩
       cases q2 with
       | true =>
        have fj:Hid (CompInv d (k+k2+1) kk dk):=HI.out.2.1.skip (keeps_neg (by omega) (by rw [Du.out,Hu.out,Hv.out];exact (kq u v).1 oZ));go_wp2_with fail;refine wp_region_quiet_below (by kernel_rfl) (by kernel_rfl) ?_
        repeat (with_reducible (refine wpQuiet_step ?_);intro K hK;go_simp;(try rw [if_neg (by unfold undef;simp)]);first | (with_reducible (refine hK _ ?_);clear hK K) | (apply Exists.intro;refine ⟨fun _=>?_,hK _ ?_⟩;(fail);clear hK K))
        with_reducible (refine wpQuiet_nil ?_)
        intro w7 hw';obtain ⟨⟨dq,osq⟩,hw''⟩:=hw'
        have b7:Below w6.heap.size w6 w7:=by rw [hw''];exact below_regrown w6 dq osq
        clear hw'' dq osq;have H7:Hid (MR w7 ad dk/\CompInv d (k+(k2+1)) kk dk/\Below ad.block w w7):=⟨HI.out.1.on b7,fj.out,HI.out.2.2.trans (b7.mono (Nat.le_of_lt HI.out.1.lt))⟩;clear b7 l0 l1;go_wp2_with fail;go_roundg (n - (k+(k2+1)))
        case measure=>omega
        case rel=>exact ⟨kk,k2+1,dk,by omega,by omega,nh,Nat.le_refl _,rfl,by go_num,H7⟩
       | false =>
        have fj:Hid (CompInv d (k+k2+1) (kk+1) (dk.setIfInBounds kk u)):=by
         have:=HI.out.2.1.keep (by rw [HN.out];omega) (keeps_pos (by rw [Du.out,Hu.out,Hv.out];intro h;rw [(kq u v).2 h] at oZ;cases oZ));rwa [Hu.out] at this
        go_wp2_with fail;refine wp_region_quiet_below (by kernel_rfl) (by kernel_rfl) ?_
        repeat (with_reducible (refine wpQuiet_step ?_);intro K hK;go_simp;(try rw [if_neg (by unfold undef;simp)]);first | (with_reducible (refine hK _ ?_);clear hK K) | (apply Exists.intro;refine ⟨fun _=>?_,hK _ ?_⟩;(fail);clear hK K))
        with_reducible (refine wpQuiet_nil ?_)
        intro w7 hw';obtain ⟨⟨dq,osq⟩,hw''⟩:=hw'
        have b7:Below w6.heap.size w6 w7:=by rw [hw''];exact below_regrown w6 dq osq
        clear hw'' dq osq;have l7:=zO (A0.out.on b7);obtain ⟨w8,a8,M8,B8,_⟩:=(HI.out.1.on b7).store kk u (by rw [HD.out];exact nh);have H8:Hid (MR w8 ad (dk.setIfInBounds kk u)/\CompInv d (k+(k2+1)) (kk+1) (dk.setIfInBounds kk u)/\Below ad.block w w8):=⟨M8,fj.out,(HI.out.2.2.trans (b7.mono (Nat.le_of_lt HI.out.1.lt))).trans B8⟩;clear b7 l0 l1 M8 B8;go_wp2_with fail;go_roundg (n - (k+(k2+1)))
        case measure=>omega
        case rel=>exact ⟨kk+1,k2+1,dk.setIfInBounds kk u,by omega,by omega,by omega,Nat.le_refl _,by go_num,by go_num,H8⟩
      ·have Ar:k+k2=n:=by omega
       obtain ⟨w7,d',fC,M7,sZ,El,B7,_⟩:=HI.out.1.clear kk (by rw [HD.out];exact nh) (cap - kk);rw [HD.out] at fC;have GN:(EX (.slice (some (ad.add (kk * 4))) (n - kk) (cap - kk))).run Tryz.prog w6 = .ok (.tuple #[]) w7:=fC 0
       have HF:Hid (dL w w7 (.returned (.slice (some ad) kk cap)) ad cap d):=by
        have hI:=HI.out.2.1;rw [Ar] at hI;exact ⟨kk,d',rfl,M7,by rw [HN.out];omega,sZ.trans hI.size,zar hI HN.out sZ El,HI.out.2.2.trans B7⟩
       clear fC M7 sZ El B7;go_wp2_with fail;go_ret;exact HF.out
   ·have HF:Hid (dL w w4 (.returned (.slice (some ad) n cap)) ad cap d):=xY HN.out lh.out (H.out.1.mono pl.out) (fun j hj=>H.out.2 j (by have:=HN.out;omega));go_wp2_with fail;go_ret;exact HF.out
end
section
open Go.RowKit Go.Lib

theorem zfd (d:Array En):(compactUpTo d d.size).Sublist d.toList:=by
 have h:(compactUpTo d d.size).Sublist ((List.range d.size).map (d[·]!)):=List.filter_sublist.map _;rwa [range_map_get] at h
theorem ziy (d:Array En) (i:Nat) (h:i < d.size):d[i]! = d[i]:=getElem!_pos d i h
theorem zih (d:Array En) (m:Nat):m <= d.size -> ∀ j,j < m -> d[j]! ∈ compactUpTo d m:=by
 induction m with
 | zero=>intro _ j hj;omega
 | succ m ih =>
  intro hm j hj;rw [compactUpTo_succ];by_cases e:j=m
  ·subst e;by_cases hk:keeps d j=true
   ·rw [if_pos hk];simp
   ·rw [if_neg hk,List.append_nil]
    have i6:¬ (j=0∨d[j]! ≠ d[j - 1]!):=by simpa [keeps] using hk
    have h0:¬ j=0:=fun h=>i6 (Or.inl h);have h1:d[j]! = d[j - 1]! := Classical.byContradiction fun h=>i6 (Or.inr h);rw [h1];exact ih (by omega) (j - 1) (by omega)
  ·exact List.mem_append_left _ (ih (by omega) j (by omega))
theorem zb8 (d:Array En) (x:En):x∈compactUpTo d d.size↔x∈d.toList:=by
 constructor
 ·exact fun h=>(zfd d).mem h
 ·intro h;obtain ⟨i,hi,rfl⟩:=List.mem_iff_getElem.1 h
  have i9:i < d.size:=by simpa using hi
  have:=zih d d.size (Nat.le_refl _) i i9;rw [ziy d i i9] at this;simpa using this
theorem zgN (d:Array En) (m:Nat):0 < m -> (compactUpTo d m).getLast? = some d[m - 1]! := by
 induction m with
 | zero=>intro h;omega
 | succ m ih =>
  intro _;rw [compactUpTo_succ];by_cases hk:keeps d m=true
  ·rw [if_pos hk];simp
  ·rw [if_neg hk,List.append_nil]
   have i6:¬ (m=0∨d[m]! ≠ d[m - 1]!):=by simpa [keeps] using hk
   have h0:¬ m=0:=fun h=>i6 (Or.inl h);have h1:d[m]! = d[m - 1]! := Classical.byContradiction fun h=>i6 (Or.inr h);rw [ih (by omega),show m+1 - 1=m by omega,h1]
theorem zii (d:Array En) (m:Nat):∀ i,i+1 < (compactUpTo d m).length -> (compactUpTo d m).getD i en0≠(compactUpTo d m).getD (i+1) en0:=by
 induction m with
 | zero=>intro i hi;simp [compactUpTo] at hi
 | succ m ih =>
  intro i hi;by_cases hk:keeps d m=true
  ·rw [compactUpTo_succ,if_pos hk] at hi ⊢;rw [List.length_append,List.length_singleton] at hi;by_cases e:i+1 < (compactUpTo d m).length
   ·have:=ih i e;simpa [List.getD,List.getElem?_append_left,e,show i < (compactUpTo d m).length by omega] using this
   ·have el:i+1=(compactUpTo d m).length:=by omega
    have hm:0 < m:=by
     rcases Nat.eq_zero_or_pos m with h | h
     ·subst h;simp [compactUpTo] at el
     ·exact h
    have hl:=zgN d m hm;rw [List.getLast?_eq_getElem?,<- el,Nat.add_sub_cancel] at hl
    have ch:d[m]! ≠ d[m - 1]! := by
     have:m=0∨d[m]! ≠ d[m - 1]! := by simpa [keeps] using hk
     rcases this with h | h
     ·omega
     ·exact h
    rw [List.getD,List.getElem?_append_left (by omega),hl,List.getD,List.getElem?_append_right (by omega),el,Nat.sub_self];simpa using fun h=>ch h.symm
  ·rw [compactUpTo_succ,if_neg hk,List.append_nil] at hi ⊢;exact ih i hi
theorem bh (C:List En) (h:∀ i,i+1 < C.length -> ahead (C.getD i en0) (C.getD (i+1) en0)=true):Asc C:=by
 have key:∀ k i,i+k+1 < C.length -> ahead (C.getD i en0) (C.getD (i+k+1) en0)=true:=by
  intro k
  induction k with
  | zero=>intro i hi;exact h i hi
  | succ k ih=>intro i hi;exact yy (ih i (by omega)) (h (i+k+1) (by omega))
 refine List.pairwise_iff_getElem.2 fun i j hi hj pt=>?_;have:=key (j - i - 1) i (by omega);rw [show i+(j - i - 1)+1=j by omega] at this;simpa [List.getD,hi,hj] using this
def tN (C:List En) (k:Nat):Prop:=∀ i,i+1 < k -> al (C.getD (i+1) en0) (C.getD i en0)=false
theorem zaQ {d:Array En} {C:List En} (hC:C=compactUpTo d d.size) (hp:d.toList.Pairwise (fun x y=>leE x y=true)) (h:tN C C.length):dB d.toList C 0:=by
 have ip:C.Pairwise (fun x y=>leE x y=true):=by rw [hC];exact hp.sublist (zfd d)
 have ha:Asc C:=bh C fun i hi=>zhh (zjv ip i (i+1) (by omega) hi) (h i hi)
 have hm:∀ x,x∈C↔x∈d.toList:=fun x=>by rw [hC];exact zb8 d x
 exact Or.inr ⟨kv ha hm,rfl,ha,hm⟩
theorem bC {d:Array En} {C:List En} (hC:C=compactUpTo d d.size) (i:Nat) (hi:i+1 < C.length) (hs:al (C.getD i en0) (C.getD (i+1) en0)=true):dB d.toList [] 10:=by
 have hm:∀ x,x∈C -> x∈d.toList:=fun x hx=>by rw [hC] at hx;exact (zb8 d x).1 hx
 have ch:C.getD i en0≠C.getD (i+1) en0:=by subst hC;exact zii d d.size i hi
 exact Or.inl ⟨⟨_,hm _ (zak C i (by omega)),_,hm _ (zak C (i+1) hi),hs,ch⟩,rfl,rfl⟩
end
end Go.Proofs.YtjffpimfngdggaaGreat.K
