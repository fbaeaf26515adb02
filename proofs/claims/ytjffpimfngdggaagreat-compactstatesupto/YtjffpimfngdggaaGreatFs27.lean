/- LMr LOnc LCpt LCp -/
import Derived.Test.YtjffpimfngdggaaGreatFs26
import Derived.Shelf.SlicesQ.Reverse
import Derived.Lib.OwnBridge
import Derived.Test.YtjffpimfngdggaaGreatFs21
import Derived.Deep.LoopGhost
set_option maxRecDepth 100000
set_option maxHeartbeats 8000000
namespace Go.Proofs.YtjffpimfngdggaaGreat.K
section
open Go.RowKit Go.Sort

def encE (e:En):List Value:=(EC e).toList
theorem wC (e:En):(encE e).length=4:=rfl
structure MR (W:World) (ad:Addr) (d:Array En):Prop where
 hk:HoldsK encE 4 W ad.block 0 d
 lt:ad.block < W.heap.size
 ha:ad=⟨ad.block,0,none⟩
theorem MR.at {W:World} {ad:Addr} {d:Array En} (M:MR W ad d) (i:Nat) (hi:i < d.size):EnAt W (ad.add (i * 4)) d[i]! := by
 have h:∀ c,c < 4 -> W.cell? ⟨ad.block,i * 4+c,none⟩=some (encE d[i]!)[c]! := fun c hc=>by
  have:=(M.hk.cell hi hc).1;rwa [Nat.zero_add] at this
 rw [M.ha,Addr.add_lit,Nat.zero_add];exact ⟨h 0 (by omega),by rw [Addr.add_lit];exact h 1 (by omega),by rw [Addr.add_lit];exact h 2 (by omega),by rw [Addr.add_lit];exact h 3 (by omega)⟩
theorem MR.on {W W':World} {ad:Addr} {d:Array En} (M:MR W ad d) (hb:Below W.heap.size W W'):MR W' ad d:=
 ⟨fun j hj=>by rw [hb.cell (p:=⟨ad.block,0+j,none⟩) M.lt,hb.frozen (p:=⟨ad.block,0+j,none⟩) M.lt];exact M.hk j hj,Nat.lt_of_lt_of_le M.lt hb.size,M.ha⟩
theorem vf (d:Array En) (i:Nat) (e:En) (hi:i < d.size):setMany (flatK encE 4 d) (i * 4) (encE e)=flatK encE 4 (d.setIfInBounds i e):=by
 refine ext_get! (by simp) fun t ht=>?_
 have ht':t < d.size * 4:=by simpa using ht
 rw [get_setMany _ _ _ t (by simpa using ht'),get_flatK _ _ _ t ht',get_flatK _ _ _ t (by simpa using ht'),wC];by_cases a:t / 4=i
 ·rw [if_pos ((blk_iff 4 i t (by omega)).2 a),a,getElem!_set_same d i e hi,show t - i * 4=t % 4 by omega]
 ·rw [if_neg (fun h=>a ((blk_iff 4 i t (by omega)).1 h)),getElem!_set_other d i _ e a]
theorem zbC (W:World) (g:Nat) (F:Array Value):Below g W (putRow id W g 0 F):=Lib.below_putRow (q:=0) (Below.refl g W) (Nat.le_refl _)
theorem MR.setCells {W:World} {ad:Addr} {d:Array En} (M:MR W ad d) (i:Nat) (e:En) (hi:i < d.size) :
  W.setCells ad.block (i * 4) (encE e)=putRowK encE 4 W ad.block 0 (d.setIfInBounds i e):=by
 have h1:=putRowK_self encE 4 W ad.block 0 d M.hk;have h2:=setCells_putRow W ad.block 0 (encE e) (i * 4) (flatK encE 4 d) (by rw [wC,size_flatK];have:=Nat.mul_le_mul_right 4 (show i+1 <= d.size from hi);omega);unfold putRowK at h1;rw [h1,vf d i e hi,Nat.zero_add] at h2;exact h2
theorem MR.store {W:World} {ad:Addr} {d:Array En} (M:MR W ad d) (i:Nat) (e:En) (hi:i < d.size) :
  ∃ W':World,(st28 (.pointer (some (ad.add (i * 4)))) (EV e)).run Tryz.prog W = .ok () W'/\MR W' ad (d.setIfInBounds i e)/\Below ad.block W W'/\W'.heap.size=W.heap.size:=by
 have hs:=stores_of_holds Tryz.prog (W:=W) (blk:=ad.block) (off:=0) (F:=flatK encE 4 d) M.hk (i * 4) (encE e) (by rw [wC,size_flatK];have:=Nat.mul_le_mul_right 4 (show i+1 <= d.size from hi);omega) (bu e);rw [Nat.zero_add,M.setCells i e hi] at hs;refine ⟨_,?_,⟨holdsK_putRowK encE 4 W ad.block 0 d _ M.hk (by simp),by show ad.block < (putRow id W ad.block 0 _).heap.size;rw [size_putRow];exact M.lt,M.ha⟩,zbC W ad.block _,size_putRow _ _ _ _ _⟩;have ha:=M.ha;rw [ha,Addr.add_lit,Nat.zero_add];unfold st28
 cases hq:Tryz.prog.info? 50 with
 | none=>have:=size28;simp [hq] at this
 | some x =>
  have hz:x.size=4:=by have:=size28;simpa [hq] using this
  have hs':(storeCells ⟨ad.block,i * 4,none⟩ (EC e).toList 0).run Tryz.prog W = .ok () (putRowK encE 4 W ad.block 0 (d.setIfInBounds i e)):=hs;simp only [Instr.storeAt,Instr.sureAddr,Sem.run_bind,Sem.run_pure,Result.andThen,storeVar,sizeOf,typeInfo,zu,zH];simp [hs',hq,hz]
theorem vg (d:Array En):∀ (xs:List En) (i:Nat),i+xs.length <= d.size -> setMany (flatK encE 4 d) (i * 4) (xs.map encE).flatten=flatK encE 4 (Lib.lay d i xs)
 | [],_,_=>rfl
 | x :: r,i,h=>by
  have hi:i < d.size:=by simp at h;omega
  have key:∀ (F:Array Value) (s:Nat) (a b:List Value),setMany F s (a++b)=setMany (setMany F s a) (s+a.length) b:=by
   intro F s a
   induction a generalizing F s with
   | nil=>intro b;rfl
   | cons v a ih=>intro b;simp only [List.cons_append,setMany,List.length_cons];rw [ih,show s+1+a.length=s+(a.length+1) by omega]
  rw [List.map_cons,List.flatten_cons,key,vf d i x hi,wC,show i * 4+4=(i+1) * 4 by omega];exact vg (d.setIfInBounds i x) r (i+1) (by simp at h ⊢;omega)
theorem zero29 (w:World):(zeroValue 50).run Tryz.prog w = .ok (EV en0) w:=Tryz.zeroValue50 w
theorem zeros (n:Nat):(Builtin.zeroCells (EC en0) n).toList=((List.replicate n en0).map encE).flatten:=by
 show _=ecs (List.replicate n en0)
 apply List.ext_getElem?;intro t;by_cases ht:t < n * 4
 ·have h2:=zc6 (List.replicate n en0) (t / 4) (t % 4) (by simp;omega) (by omega);rw [show t / 4 * 4+t % 4=t by omega] at h2
  have hg:(List.replicate n en0).getD (t / 4) en0=en0:=by simp [List.getD,show t / 4 < n by omega]
  rw [h2,hg]
  have h1:(Builtin.zeroCells (EC en0) n).toList[t]? = some ((EC en0)[t % 4]!):=by simp [Builtin.zeroCells,zH,ht]
  rw [h1]
  have:t % 4=0∨t % 4=1∨t % 4=2∨t % 4=3:=by omega
  rcases this with h | h | h | h <;> rw [h] <;> rfl
 ·rw [List.getElem?_eq_none (by simp [Builtin.zeroCells,zH];omega),List.getElem?_eq_none (by rw [ju];simp;omega)]
theorem kW (d:Array En):∀ (xs:List En) (k:Nat),(Lib.lay d k xs).size=d.size:=by
 intro xs
 induction xs generalizing d with
 | nil=>intro k;rfl
 | cons x r ih=>intro k;rw [Lib.lay,ih];simp
theorem MR.clear {W:World} {ad:Addr} {d:Array En} (M:MR W ad d) (kk:Nat) (hk:kk < d.size) (c:Nat) :
  ∃ (W':World) (d':Array En),(∀ ty,(Builtin.clear_ #[22] ty #[.slice (some (ad.add (kk * 4))) (d.size - kk) c]).run Tryz.prog W = .ok (.tuple #[]) W')/\MR W' ad d'/\d'.size=d.size/\(∀ j,j < kk -> d'[j]! = d[j]!)/\Below ad.block W W'/\W'.heap.size=W.heap.size:=by
 obtain ⟨m,hm⟩:∃ m,d.size - kk=m:=⟨_,rfl⟩;have h1:=putRowK_self encE 4 W ad.block 0 d M.hk
 have hlen:(((List.replicate m en0).map encE).flatten).length=m * 4:=by
  have:=ju (List.replicate m en0);rwa [List.length_replicate] at this
 have hs:=stores_of_holds Tryz.prog (W:=W) (blk:=ad.block) (off:=0) (F:=flatK encE 4 d) M.hk (kk * 4) ((List.replicate m en0).map encE).flatten (by rw [hlen,size_flatK];omega) (by
  intro v hv;obtain ⟨l,hl,hv⟩:=List.mem_flatten.1 hv;obtain ⟨e,_,rfl⟩:=List.mem_map.1 hl
  exact bu e v hv)
 have h2:=setCells_putRow W ad.block 0 ((List.replicate m en0).map encE).flatten (kk * 4) (flatK encE 4 d) (by rw [hlen,size_flatK];omega);unfold putRowK at h1;rw [h1,vg d (List.replicate m en0) kk (by simp;omega),Nat.zero_add] at h2;rw [Nat.zero_add,h2] at hs;refine ⟨_,Lib.lay d kk (List.replicate m en0),fun ty=>?_,⟨holdsK_putRowK encE 4 W ad.block 0 d _ M.hk (kW _ _ _),by show ad.block < (putRow id W ad.block 0 _).heap.size;rw [size_putRow];exact M.lt,M.ha⟩,kW _ _ _,fun j hj=>?_,zbC W ad.block _,size_putRow _ _ _ _ _⟩
 ·have ha:=M.ha;rw [ha,Addr.add_lit,Nat.zero_add,hm];obtain ⟨m',rfl⟩:∃ m',m=m'+1:=⟨m - 1,by omega⟩;have hz:=zero29 W;simp [Builtin.clear_,run_underlying Tryz.underlying22,hz];rw [zu,zeros,hs];rfl
 ·have:=Lib.lay_get? (List.replicate m en0) d kk j (by simp;omega);rw [if_neg (by omega)] at this;rw [getElem!_def,getElem!_def,this]
def Grew (w w':World):Prop:=∃ q os,w'=grow (w.drewN q) os
theorem zb7 (w:World) (a b c:Obj):Grew w (((w.alloc a).alloc b).drew.alloc c):=by
 refine ⟨1,#[a]++#[b]++#[c],?_⟩;rw [alloc_eq_grow ((w.alloc a).alloc b).drew c,alloc_eq_grow (w.alloc a) b,alloc_eq_grow w a,grow_grow,drew_grow,grow_grow];rfl
theorem zaH (x y:En) (w:World):Calls Tryz.prog 104 #[enV x,enV y] w fun e w'=>e = .returned (.int .i64 (byD x y))/\Grew w w':=by
 have T0:=hide (Two.start w x y);obtain ⟨w0,Hw0⟩:∃ w0,Hid ((w.alloc (.cells #[.int .i64 x.rep,.int .i64 x.num,.string x.sku,.int .i64 x.qty] 50)).alloc (.cells #[.int .i64 y.rep,.int .i64 y.num,.string y.sku,.int .i64 y.qty] 50)=w0):=⟨_,rfl⟩;rw [Hw0.out] at T0;have c1:=T0.out.a0;have c2:=T0.out.a1;have c3:=T0.out.b0;have c4:=T0.out.b1;obtain ⟨p,Hp⟩:∃ p,Hid (cmpI x.rep y.rep=p):=⟨_,rfl⟩;obtain ⟨q,Hq⟩:∃ q,Hid (cmpI x.num y.num=q):=⟨_,rfl⟩
 have C1:Hid (∀ W,Calls Tryz.prog 138 #[.int .i64 x.rep,.int .i64 y.rep] W fun e w'=>e = .returned (.int .i64 p)/\w'=W):=fun W=>by rw [<- Hp.out];exact qK _ _ W
 have C2:Hid (∀ W,Calls Tryz.prog 138 #[.int .i64 x.num,.int .i64 y.num] W fun e w'=>e = .returned (.int .i64 q)/\w'=W):=fun W=>by rw [<- Hq.out];exact qK _ _ W
 have HF:Hid (or2 p q=byD x y):=by show _=_;unfold byD;rw [Hp.out,Hq.out]
 have T1:Hid (Two w (w0.drew.alloc (.cells #[.int .i64 p,.int .i64 q] 3)) x y):=(T0.out.on (bp (Below.refl _ _))).on (ze _ _);have HO:=hide (zhB p q w0.drew w0.heap.size rfl)
 have HG:Hid (Grew w (w0.drew.alloc (.cells #[.int .i64 p,.int .i64 q] 3))):=by rw [<- Hw0.out];exact zb7 _ _ _ _
 obtain ⟨r,m,s,q⟩:=x;obtain ⟨r',m',s',q'⟩:=y;go_enter Tryz.func104,Tryz.ntmps104;go_wp2_with fail;rw [Hw0.out]
 first | (go_region_held (fun W=>W.cell? ⟨w.heap.size,0,none⟩=some (.int .i64 r)/\W.cell? ⟨w.heap.size,1,none⟩=some (.int .i64 m)/\W.cell? ⟨w.heap.size+1,0,none⟩=some (.int .i64 r')/\W.cell? ⟨w.heap.size+1,1,none⟩=some (.int .i64 m')) (first | exact ⟨T1.out.a0,T1.out.a1,T1.out.b0,T1.out.b1⟩ | go_keep) (first | (go_at_call_of 138 r;refine (C1.out _).mono ?_;rintro e w' ⟨rfl,rfl⟩) | (go_at_call_of 138 m;refine (C2.out _).mono ?_;rintro e w' ⟨rfl,rfl⟩) | (go_at_call 137;refine HO.out.mono ?_;rintro e w' ⟨rfl,rfl⟩))) | fail
 all_goals (go_wp2_with fail)
 all_goals go_ret
 all_goals exact ⟨zG HF.out,HG.out⟩
theorem wg (x y:En):ltOf byD x y=ahead x y:=by
 unfold ltOf byD or2 cmpI ahead;by_cases h1:x.rep < y.rep
 ·simp [h1]
 ·by_cases h2:y.rep < x.rep
  ·have:¬ x.rep=y.rep:=by omega
   simp [h1,h2,this]
  ·have e:x.rep=y.rep:=by omega
   by_cases h3:x.num < y.num
   ·simp [e,h3]
   ·by_cases h4:y.num < x.num <;> simp [e,h3,h4]
theorem zck:SWO (ltOf byD) where
 irrefl x:=by rw [wg];exact vv x
 trans x y z h1 h2:=by rw [wg] at *;exact yE h1 h2
 ntrans x y z h1 h2:=by rw [wg] at *;simp [ahead] at *;omega
theorem cmpLays (blk size:Nat) (w:World):CmpLays Tryz.prog 104 #[] encE 4 byD blk 0 size w:=
 fun _ _ _ _ x y=>zaH x y _
theorem jK (ad:Addr) (cap n:Nat) (d:Array En) (w:World) (M:MR w ad d) (hn:d.size=n) (hb:n <= 3518437208883) :
  Calls Tryz.prog 234 #[.slice (some ad) n cap,.func (.func 104) #[] #[]] w fun e w'=>e = .returned (.tuple #[])/\∃ d',d'.toList.Perm d.toList/\d'.toList.Pairwise (fun x y=>leE x y=true)/\MR w' ad d'/\Below ad.block w w':=by
 subst hn;have eg:∀ args w,(callFunc 104 args).run Tryz.prog w = .ok (.enter 104 args) w:=enters_of Tryz.func104 (by kernel_rfl) rfl;have h:=AnyQ.slices_SortFunc Tryz.sortEn 4 Tryz.isAgg50 Tryz.sizeOf50 encE (fun _=>rfl) (fun x v hv=>bu x v hv) byD zck 104 #[] ad.block 0 cap d w eg (cmpLays ad.block d.size w) M.hk M.lt (by omega);rw [<- M.ha] at h;refine Calls.mono h ?_;rintro e w' ⟨rfl,d',m,os,⟨hs,_,hp⟩,hsr,rfl⟩;refine ⟨rfl,d',?_,?_,⟨holdsK_sortWorldK_c encE 4 w ad.block 0 d d' m os M.hk M.lt hs,?_,M.ha⟩,?_⟩
 ·have e1:d'.extract 0 d.size=d':=by rw [<- hs];simp
  have e2:d.extract 0 d.size=d:=by simp
  rwa [e1,e2] at hp
 ·rw [List.pairwise_iff_getElem];intro i j hi hj hij;have:=hsr i j (Nat.zero_le _) hij (by rw [<- hs];simpa using hj);rw [wg] at this;rw [getElem!_pos d' j (by simpa using hj),getElem!_pos d' i (by simpa using hi)] at this;simp only [Array.getElem_toList];unfold leE;rw [this];rfl
 ·have:=M.lt
  show ad.block < (grow (putRow id (Sort.ahead w m) ad.block 0 (flatK encE 4 d')) os).heap.size
  show ad.block < ((putRow id (Sort.ahead w m) ad.block 0 (flatK encE 4 d')).heap++os).size
  rw [Array.size_append,size_putRow]
  show ad.block < w.heap.size+os.size
  omega
 ·have h1:Below ad.block w (putRow id (Sort.ahead w m) ad.block 0 (flatK encE 4 d')):=Lib.below_putRow (Below.refl _ _) (Nat.le_refl _);refine h1.trans ?_
  have hsz:ad.block <= (putRow id (Sort.ahead w m) ad.block 0 (flatK encE 4 d')).heap.size:=by rw [size_putRow];exact Nat.le_of_lt M.lt
  show Below ad.block _ (grow (putRow id (Sort.ahead w m) ad.block 0 (flatK encE 4 d')) os)
  generalize putRow id (Sort.ahead w m) ad.block 0 (flatK encE 4 d')=V at hsz;exact ⟨rfl,rfl,rfl,by show _ <= (V.heap++os).size;rw [Array.size_append];omega,fun k hk=>by show (V.heap++os)[k]? = _;rw [Array.getElem?_append_left (by omega)]⟩
end
section
open Go.RowKit
attribute [local go_sem ↓] zy zx xI
attribute [local go_sem] zJ zu zH xz
theorem jx (x y:En) (w:World):(Op.equalIn 10000 48 (.agg (DC x)) (.agg (DC y))).run Tryz.prog w = .ok (sameDot x y) w:=by
 have u3:=Tryz.underlying3;have a3:=Tryz.isAgg3;have z3:=Tryz.sizeOf3
 have hS:Tryz.prog.underlying 48=some (.struct (Tryz.prog.fieldsOf 48)):=by kernel_rfl
 have hp:Tryz.prog.stoodInHeld 48=false:=by kernel_rfl
 obtain ⟨a,b,_,_⟩:=x;obtain ⟨c,d,_,_⟩:=y
 show (Op.equalIn 10000 48 (.agg #[.int .i64 a,.int .i64 b]) (.agg #[.int .i64 c,.int .i64 d])).run Tryz.prog w = .ok (a == c && b == d) w
 rw [show (10000:Nat)=9999+1 from rfl,run_equalIn_struct w 9999 48 _ _ hS hp];simp only [Program.fieldsOf,Tryz.underlying48];go_simp;by_cases h1:a=c <;> by_cases h2:b=d <;> simp [h1,h2]
attribute [local go_sem ↓] qz jx
theorem kx (x y:En):eqE x y=true↔x=y:=by
 constructor
 ·intro h;obtain ⟨a,b,s,c⟩:=x;obtain ⟨a',b',s',c'⟩:=y;simp only [eqE,Bool.and_eq_true,beq_iff_eq] at h;obtain ⟨⟨⟨rfl,rfl⟩,h3⟩,rfl⟩:=h
  have:s=s':=by
   rw [ByteArray.toList_eq,ByteArray.toList_eq] at h3
   cases s;cases s';simp at h3;simp [h3]
  rw [this]
 ·rintro rfl;exact vh _
def GivesT (w w':World) (e:Ending) (L:List En):Prop:=∃ ao n c R er,e = .returned (.tuple #[.slice ao n c,.int .i64 er])/\ESrc w' ao n c R/\Below w.heap.size w w'/\(∀ ad,ao=some ad -> w.heap.size <= ad.block)/\Settled L R er
end
section
open Go.RowKit Go.Lib
attribute [local go_sem ↓] zy zx qz
attribute [local go_sem] zJ zu zH
theorem qA (p:Addr) (i j:Nat):(p.add i).add j=p.add (i+j):=by
 unfold Addr.add;split <;> split <;> simp_all [Nat.add_assoc]
def cl22 (a:Value):Sem Value:=Builtin.clear_ #[22] 0 #[a]
theorem zim (a:Value):Builtin.clear_ #[22] 0 #[a]=cl22 a:=rfl
attribute [local go_sem ↓] zim
def CompOut (w w':World) (e:Ending) (ad:Addr) (cap:Nat) (d:Array En):Prop:=
 ∃ k d',e = .returned (.slice (some ad) k cap)/\MR w' ad d'/\k <= d.size/\d'.size=d.size/\d'.toList.take k=compactUpTo d d.size/\Below ad.block w w'
theorem x9 {w w':World} {ad:Addr} {cap n:Nat} {d:Array En} (hn:d.size=n) (M:MR w' ad d) (hb:Below ad.block w w') (hall:∀ j,j < d.size -> keeps d j=true):CompOut w w' (.returned (.slice (some ad) n cap)) ad cap d:=
 ⟨n,d,rfl,M,by omega,rfl,by rw [compactUpTo_all d _ hall,range_map_get,List.take_of_length_le (by simp;omega)],hb⟩
theorem zav {d dk d':Array En} {n kk:Nat} (hI:CompInv d n kk dk) (hn:d.size=n) (hs:d'.size=dk.size) (hl:∀ j,j < kk -> d'[j]! = dk[j]!):d'.toList.take kk=compactUpTo d d.size:=by
 rw [hn];have hkk:=hI.lt;have hsz:=hI.size;apply List.ext_getElem?;intro j;by_cases hj:j < kk
 ·rw [hI.low j hj,<- hl j hj,List.getElem?_take,if_pos hj,Array.getElem?_toList,Array.getElem?_eq_getElem (by omega),getElem!_pos d' j (by omega)]
 ·rw [List.getElem?_eq_none (by rw [List.length_take];omega),List.getElem?_eq_none (by rw [hI.len];omega)]
theorem ky (ad:Addr) (cap n:Nat) (d:Array En) (w:World) (M:MR w ad d) (hn:d.size=n) (hb:n <= 3518437208883) (hcap:n <= cap) (hcm:cap <= 9223372036854775807) :
  Calls Tryz.prog 235 #[.slice (some ad) n cap] w fun e w'=>CompOut w w' e ad cap d:=by
 have HM:=hide M;have HN:=hide hn;have HLT:Hid (ad.block <= w.heap.size):=Nat.le_of_lt M.lt;clear M hn;by_cases h2:n < 2
 ·have HF:Hid (CompOut w w (.returned (.slice (some ad) n cap)) ad cap d):=x9 HN.out HM.out (Below.refl _ _) (fun j hj=>keeps_lt_one d j (by have:=HN.out;omega));go_enter Tryz.func235,Tryz.ntmps235;go_wp2_with fail;go_ret;exact HF.out
 ·go_enter Tryz.func235,Tryz.ntmps235;go_wp2_with fail;go_loopg [3] n (fun g s wr=>∃ k:Nat,1 <= k/\k <= n/\n - k <= g/\s = .int .i64 k/\Hid (Below w.heap.size w wr/\∀ j,j < k -> keeps d j=true))
  case atStart=>exact ⟨1,Nat.le_refl _,by omega,by omega,rfl,Below.refl _ _,keeps_lt_one d⟩
  case round =>
   obtain ⟨k,hk1,hk,hg,rfl,H⟩:=hrel
   rename World=>w4
   have HM4:=hide (HM.out.on H.out.1);by_cases hlt:k < n
   ·obtain ⟨j,hj⟩:∃ j,k - 1=j:=⟨_,rfl⟩
    have hz:IntKind.i64.wrap ((k:Int) - 1)=(j:Int):=by rw [IntKind.wrap_i64];omega
    have hjn:j < n:=by omega
    have A0:=hide (HM4.out.at k (by rw [HN.out];exact hlt));have A1:=hide (HM4.out.at j (by rw [HN.out];exact hjn));obtain ⟨x,Hx⟩:∃ x,Hid (d[k]! = x):=⟨_,rfl⟩;obtain ⟨y,Hy⟩:∃ y,Hid (d[j]! = y):=⟨_,rfl⟩;rw [Hx.out] at A0;rw [Hy.out] at A1;have Hj:=hide hj;clear hj;have l0:∀ d os,(ld28 (.pointer (some (ad.add (k * 4))))).run Tryz.prog (Sort.grow (redrawn w4 d) os) = .ok (EV x) (Sort.grow (redrawn w4 d) os):=fun d os=>zN (A0.out.on (below_regrown w4 d os));have l1:∀ d os,(ld28 (.pointer (some (ad.add (j * 4))))).run Tryz.prog (Sort.grow (redrawn w4 d) os) = .ok (EV y) (Sort.grow (redrawn w4 d) os):=fun d os=>zN (A1.out.on (below_regrown w4 d os));obtain ⟨q,hq⟩:∃ q,eqE x y=q:=⟨_,rfl⟩
    cases q with
    | false =>
     have HK:Hid (keeps d k=true):=keeps_pos (by rw [Hj.out,Hx.out,Hy.out];intro h;rw [(kx x y).2 h] at hq;cases hq);go_wp2_with fail;refine wp_region_quiet_below (by kernel_rfl) (by kernel_rfl) ?_
     repeat (with_reducible (refine wpQuiet_step ?_);intro K hK;go_simp;(try rw [if_neg (by unfold undef;simp)]);first | (with_reducible (refine hK _ ?_);clear hK K) | (apply Exists.intro;refine ⟨fun _=>?_,hK _ ?_⟩;(fail);clear hK K))
     with_reducible (refine wpQuiet_nil ?_)
     intro w5 hw';obtain ⟨⟨dq,osq⟩,hw''⟩:=hw'
     have b5:Below w4.heap.size w4 w5:=by rw [hw''];exact below_regrown w4 dq osq
     clear hw'' dq osq
     have H5:Hid (Below w.heap.size w w5/\∀ j,j < k+1 -> keeps d j=true):=⟨H.out.1.trans (b5.mono H.out.1.size),fun i hi=>by
      by_cases e:i=k
      ·rw [e];exact HK.out
      ·exact H.out.2 i (by omega)⟩
     clear b5 l0 l1;go_wp2_with fail;go_roundg (n - (k+1))
     case measure=>omega
     case rel=>exact ⟨k+1,by omega,by omega,Nat.le_refl _,by go_num,H5⟩
    | true =>
     have HK:Hid (keeps d k=false):=keeps_neg (by omega) (by rw [Hj.out,Hx.out,Hy.out];exact (kx x y).1 hq);go_wp2_with fail;refine wp_region_quiet_below (by kernel_rfl) (by kernel_rfl) ?_
     repeat (with_reducible (refine wpQuiet_step ?_);intro K hK;go_simp;(try rw [if_neg (by unfold undef;simp)]);first | (with_reducible (refine hK _ ?_);clear hK K) | (apply Exists.intro;refine ⟨fun _=>?_,hK _ ?_⟩;(fail);clear hK K))
     with_reducible (refine wpQuiet_nil ?_)
     intro w5 hw';obtain ⟨⟨dq,osq⟩,hw''⟩:=hw'
     have b5:Below w4.heap.size w4 w5:=by rw [hw''];exact below_regrown w4 dq osq
     clear hw'' dq osq;have HM5:=hide (HM4.out.on b5);have HB5:Hid (Below ad.block w w5):=(H.out.1.mono HLT.out).trans (b5.mono (Nat.le_trans HLT.out H.out.1.size));have HC5:Hid (CompInv d (k+1) k d):=CompInv.start H.out.2 HK.out;clear b5 l0 l1 hq;go_wp2_with fail;go_loopg [3,5] n (fun g s3 s5 wr=>∃ (kk k2:Nat) (dk:Array En),1 <= k2/\k+k2 <= n/\kk < n/\n - (k+k2) <= g/\s3 = .int .i64 kk/\s5 = .int .i64 k2/\Hid (MR wr ad dk/\CompInv d (k+k2) kk dk/\Below ad.block w wr))
     case atStart=>exact ⟨k,1,d,Nat.le_refl _,by omega,hlt,by omega,rfl,rfl,HM5.out,HC5.out,HB5.out⟩
     case round =>
      obtain ⟨kk,k2,dk,hk2,hkn,hkk,hg2,rfl,rfl,HI⟩:=hrel
      rename World=>w6
      clear HM5 HC5 HB5 HM4 A0 A1;have HD:Hid (dk.size=n):=HI.out.2.1.size.trans HN.out;by_cases hlt2:k2 < n - k
      ·obtain ⟨j2,hj2⟩:∃ j2,k2 - 1=j2:=⟨_,rfl⟩
       have hz2:IntKind.i64.wrap ((k2:Int) - 1)=(j2:Int):=by rw [IntKind.wrap_i64];omega
       have hjn2:j2 < n - k:=by omega
       have A0:=hide (HI.out.1.at (k+k2) (by rw [HD.out];omega));have A1:=hide (HI.out.1.at (k+j2) (by rw [HD.out];omega));have hkk2:=HI.out.2.1.lt;obtain ⟨u,Hu⟩:∃ u,Hid (d[k+k2]! = u):=⟨_,rfl⟩;obtain ⟨v,Hv⟩:∃ v,Hid (d[k+j2]! = v):=⟨_,rfl⟩;rw [HI.out.2.1.high (k+k2) (by omega),Hu.out,Nat.add_mul,<- qA] at A0;rw [HI.out.2.1.high (k+j2) (by omega),Hv.out,Nat.add_mul,<- qA] at A1
       have Hj2:Hid (k+k2 - 1=k+j2):=by show _=_;omega
       clear hj2;have l0:∀ d os,(ld28 (.pointer (some ((ad.add (k * 4)).add (k2 * 4))))).run Tryz.prog (Sort.grow (redrawn w6 d) os) = .ok (EV u) (Sort.grow (redrawn w6 d) os):=fun d os=>zN (A0.out.on (below_regrown w6 d os));have l1:∀ d os,(ld28 (.pointer (some ((ad.add (k * 4)).add (j2 * 4))))).run Tryz.prog (Sort.grow (redrawn w6 d) os) = .ok (EV v) (Sort.grow (redrawn w6 d) os):=fun d os=>zN (A1.out.on (below_regrown w6 d os));obtain ⟨q2,hq2⟩:∃ q2,eqE u v=q2:=⟨_,rfl⟩
       cases q2 with
       | true =>
        have HNX:Hid (CompInv d (k+k2+1) kk dk):=HI.out.2.1.skip (keeps_neg (by omega) (by rw [Hj2.out,Hu.out,Hv.out];exact (kx u v).1 hq2));go_wp2_with fail;refine wp_region_quiet_below (by kernel_rfl) (by kernel_rfl) ?_
        repeat (with_reducible (refine wpQuiet_step ?_);intro K hK;go_simp;(try rw [if_neg (by unfold undef;simp)]);first | (with_reducible (refine hK _ ?_);clear hK K) | (apply Exists.intro;refine ⟨fun _=>?_,hK _ ?_⟩;(fail);clear hK K))
        with_reducible (refine wpQuiet_nil ?_)
        intro w7 hw';obtain ⟨⟨dq,osq⟩,hw''⟩:=hw'
        have b7:Below w6.heap.size w6 w7:=by rw [hw''];exact below_regrown w6 dq osq
        clear hw'' dq osq;have H7:Hid (MR w7 ad dk/\CompInv d (k+(k2+1)) kk dk/\Below ad.block w w7):=⟨HI.out.1.on b7,HNX.out,HI.out.2.2.trans (b7.mono (Nat.le_of_lt HI.out.1.lt))⟩;clear b7 l0 l1;go_wp2_with fail;go_roundg (n - (k+(k2+1)))
        case measure=>omega
        case rel=>exact ⟨kk,k2+1,dk,by omega,by omega,hkk,Nat.le_refl _,rfl,by go_num,H7⟩
       | false =>
        have HNX:Hid (CompInv d (k+k2+1) (kk+1) (dk.setIfInBounds kk u)):=by
         have:=HI.out.2.1.keep (by rw [HN.out];omega) (keeps_pos (by rw [Hj2.out,Hu.out,Hv.out];intro h;rw [(kx u v).2 h] at hq2;cases hq2));rwa [Hu.out] at this
        go_wp2_with fail;refine wp_region_quiet_below (by kernel_rfl) (by kernel_rfl) ?_
        repeat (with_reducible (refine wpQuiet_step ?_);intro K hK;go_simp;(try rw [if_neg (by unfold undef;simp)]);first | (with_reducible (refine hK _ ?_);clear hK K) | (apply Exists.intro;refine ⟨fun _=>?_,hK _ ?_⟩;(fail);clear hK K))
        with_reducible (refine wpQuiet_nil ?_)
        intro w7 hw';obtain ⟨⟨dq,osq⟩,hw''⟩:=hw'
        have b7:Below w6.heap.size w6 w7:=by rw [hw''];exact below_regrown w6 dq osq
        clear hw'' dq osq;have l7:=zN (A0.out.on b7);obtain ⟨w8,hst,M8,B8,_⟩:=(HI.out.1.on b7).store kk u (by rw [HD.out];exact hkk);have H8:Hid (MR w8 ad (dk.setIfInBounds kk u)/\CompInv d (k+(k2+1)) (kk+1) (dk.setIfInBounds kk u)/\Below ad.block w w8):=⟨M8,HNX.out,(HI.out.2.2.trans (b7.mono (Nat.le_of_lt HI.out.1.lt))).trans B8⟩;clear b7 l0 l1 M8 B8;go_wp2_with fail;go_roundg (n - (k+(k2+1)))
        case measure=>omega
        case rel=>exact ⟨kk+1,k2+1,dk.setIfInBounds kk u,by omega,by omega,by omega,Nat.le_refl _,by go_num,by go_num,H8⟩
      ·have hend:k+k2=n:=by omega
       obtain ⟨w7,d',hcl,M7,hs7,hl7,B7,_⟩:=HI.out.1.clear kk (by rw [HD.out];exact hkk) (cap - kk);rw [HD.out] at hcl;have hcl0:(cl22 (.slice (some (ad.add (kk * 4))) (n - kk) (cap - kk))).run Tryz.prog w6 = .ok (.tuple #[]) w7:=hcl 0
       have HF:Hid (CompOut w w7 (.returned (.slice (some ad) kk cap)) ad cap d):=by
        have hI:=HI.out.2.1;rw [hend] at hI;exact ⟨kk,d',rfl,M7,by rw [HN.out];omega,hs7.trans hI.size,zav hI HN.out hs7 hl7,HI.out.2.2.trans B7⟩
       clear hcl M7 hs7 hl7 B7;go_wp2_with fail;go_ret;exact HF.out
   ·have HF:Hid (CompOut w w4 (.returned (.slice (some ad) n cap)) ad cap d):=x9 HN.out HM4.out (H.out.1.mono HLT.out) (fun j hj=>H.out.2 j (by have:=HN.out;omega));go_wp2_with fail;go_ret;exact HF.out
end
section
open Go.RowKit Go.Lib

theorem zfl (d:Array En):(compactUpTo d d.size).Sublist d.toList:=by
 have h:(compactUpTo d d.size).Sublist ((List.range d.size).map (d[·]!)):=List.filter_sublist.map _;rwa [range_map_get] at h
theorem ziz (d:Array En) (i:Nat) (h:i < d.size):d[i]! = d[i]:=getElem!_pos d i h
theorem zii (d:Array En) (m:Nat):m <= d.size -> ∀ j,j < m -> d[j]! ∈ compactUpTo d m:=by
 induction m with
 | zero=>intro _ j hj;omega
 | succ m ih =>
  intro hm j hj;rw [compactUpTo_succ];by_cases e:j=m
  ·subst e;by_cases hk:keeps d j=true
   ·rw [if_pos hk];simp
   ·rw [if_neg hk,List.append_nil]
    have hk':¬ (j=0∨d[j]! ≠ d[j - 1]!):=by simpa [keeps] using hk
    have h0:¬ j=0:=fun h=>hk' (Or.inl h);have h1:d[j]! = d[j - 1]! := Classical.byContradiction fun h=>hk' (Or.inr h);rw [h1];exact ih (by omega) (j - 1) (by omega)
  ·exact List.mem_append_left _ (ih (by omega) j (by omega))
theorem zce (d:Array En) (x:En):x∈compactUpTo d d.size↔x∈d.toList:=by
 constructor
 ·exact fun h=>(zfl d).mem h
 ·intro h;obtain ⟨i,hi,rfl⟩:=List.mem_iff_getElem.1 h
  have hi':i < d.size:=by simpa using hi
  have:=zii d d.size (Nat.le_refl _) i hi';rw [ziz d i hi'] at this;simpa using this
theorem zgV (d:Array En) (m:Nat):0 < m -> (compactUpTo d m).getLast? = some d[m - 1]! := by
 induction m with
 | zero=>intro h;omega
 | succ m ih =>
  intro _;rw [compactUpTo_succ];by_cases hk:keeps d m=true
  ·rw [if_pos hk];simp
  ·rw [if_neg hk,List.append_nil]
   have hk':¬ (m=0∨d[m]! ≠ d[m - 1]!):=by simpa [keeps] using hk
   have h0:¬ m=0:=fun h=>hk' (Or.inl h);have h1:d[m]! = d[m - 1]! := Classical.byContradiction fun h=>hk' (Or.inr h);rw [ih (by omega),show m+1 - 1=m by omega,h1]
theorem zij (d:Array En) (m:Nat):∀ i,i+1 < (compactUpTo d m).length -> (compactUpTo d m).getD i en0≠(compactUpTo d m).getD (i+1) en0:=by
 induction m with
 | zero=>intro i hi;simp [compactUpTo] at hi
 | succ m ih =>
  intro i hi;by_cases hk:keeps d m=true
  ·rw [compactUpTo_succ,if_pos hk] at hi ⊢;rw [List.length_append,List.length_singleton] at hi;by_cases e:i+1 < (compactUpTo d m).length
   ·have:=ih i e;simpa [List.getD,List.getElem?_append_left,e,show i < (compactUpTo d m).length by omega] using this
   ·have el:i+1=(compactUpTo d m).length:=by omega
    have hm:0 < m:=by
     rcases Nat.eq_zero_or_pos m with h | h
     ·subst h;simp [compactUpTo] at el
     ·exact h
    have hl:=zgV d m hm;rw [List.getLast?_eq_getElem?,<- el,Nat.add_sub_cancel] at hl
    have hne:d[m]! ≠ d[m - 1]! := by
     have:m=0∨d[m]! ≠ d[m - 1]! := by simpa [keeps] using hk
     rcases this with h | h
     ·omega
     ·exact h
    rw [List.getD,List.getElem?_append_left (by omega),hl,List.getD,List.getElem?_append_right (by omega),el,Nat.sub_self];simpa using fun h=>hne h.symm
  ·rw [compactUpTo_succ,if_neg hk,List.append_nil] at hi ⊢;exact ih i hi
theorem bs (C:List En) (h:∀ i,i+1 < C.length -> ahead (C.getD i en0) (C.getD (i+1) en0)=true):Asc C:=by
 have key:∀ k i,i+k+1 < C.length -> ahead (C.getD i en0) (C.getD (i+k+1) en0)=true:=by
  intro k
  induction k with
  | zero=>intro i hi;exact h i hi
  | succ k ih=>intro i hi;exact yE (ih i (by omega)) (h (i+k+1) (by omega))
 refine List.pairwise_iff_getElem.2 fun i j hi hj hij=>?_;have:=key (j - i - 1) i (by omega);rw [show i+(j - i - 1)+1=j by omega] at this;simpa [List.getD,hi,hj] using this
def AdjN (C:List En) (k:Nat):Prop:=∀ i,i+1 < k -> sameDot (C.getD (i+1) en0) (C.getD i en0)=false
theorem zaT {d:Array En} {C:List En} (hC:C=compactUpTo d d.size) (hp:d.toList.Pairwise (fun x y=>leE x y=true)) (h:AdjN C C.length):Settled d.toList C 0:=by
 have hle:C.Pairwise (fun x y=>leE x y=true):=by rw [hC];exact hp.sublist (zfl d)
 have ha:Asc C:=bs C fun i hi=>zhn (zjv hle i (i+1) (by omega) hi) (h i hi)
 have hm:∀ x,x∈C↔x∈d.toList:=fun x=>by rw [hC];exact zce d x
 exact Or.inr ⟨kB ha hm,rfl,ha,hm⟩
theorem bG {d:Array En} {C:List En} (hC:C=compactUpTo d d.size) (i:Nat) (hi:i+1 < C.length) (hs:sameDot (C.getD i en0) (C.getD (i+1) en0)=true):Settled d.toList [] 10:=by
 have hm:∀ x,x∈C -> x∈d.toList:=fun x hx=>by rw [hC] at hx;exact (zce d x).1 hx
 have hne:C.getD i en0≠C.getD (i+1) en0:=by subst hC;exact zij d d.size i hi
 exact Or.inl ⟨⟨_,hm _ (zap C i (by omega)),_,hm _ (zap C (i+1) hi),hs,hne⟩,rfl,rfl⟩
end
end Go.Proofs.YtjffpimfngdggaaGreat.K
