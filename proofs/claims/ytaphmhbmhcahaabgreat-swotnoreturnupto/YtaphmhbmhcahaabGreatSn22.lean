/- LDd LShf LMr LOnc LCpt LCp LRis LSor LSo2 LShg -/
import Derived.Test.YtaphmhbmhcahaabGreatSn21
import Derived.Lib.SlicesCompact
import Derived.Shelf.SlSortCmp.WholeK
import Derived.Test.YtaphmhbmhcahaabGreatProg
import Derived.Shelf.SlicesQ.Reverse
import Derived.Lib.OwnBridge
import Derived.Test.YtaphmhbmhcahaabGreatSn18
import Derived.Deep.LoopGhost
import Derived.Shelf.SlSortCmp.NoneTotal
import Derived.Lib.SliceRun
import Derived.Shelf.Spec.SlicesGrow
set_option maxRecDepth 100000
set_option maxHeartbeats 8000000
namespace Go.Proofs.YtaphmhbmhcahaabGreat.K
open Go.RowKit

instance:DecidableEq En:=fun a b =>
 decidable_of_iff (a.rep=b.rep/\a.num=b.num/\a.sku=b.sku/\a.qty=b.qty) ⟨fun ⟨h1,h2,h3,h4⟩=>by cases a;cases b;simp_all,fun h=>by subst h;exact ⟨rfl,rfl,rfl,rfl⟩⟩
instance:Inhabited En:=⟨en0⟩
def sameDot (x y:En):Bool:=x.rep == y.rep && x.num == y.num
theorem ahead_of {x y:En} (h:leE x y=true) (hs:sameDot y x=false):ahead x y=true:=by
 simp [leE,ahead,sameDot] at *;omega
theorem ahead_trans {x y z:En} (h:ahead x y=true) (h2:ahead y z=true):ahead x z=true:=by
 simp [ahead] at *;omega
theorem ahead_irr (x:En):ahead x x=false:=by simp [ahead]
theorem ahead_asymm {x y:En} (h:ahead x y=true):ahead y x=false:=by
 simp [ahead] at *;omega
theorem ahead_same {x y:En} (h:ahead x y=true):sameDot x y=false:=by
 simp [ahead,sameDot] at *;omega
theorem same_symm {x y:En}:sameDot x y=sameDot y x:=by
 simp [sameDot,Bool.beq_comm]
def Clash (L:List En):Prop:=∃ x,x∈L/\∃ y,y∈L/\sameDot x y=true/\x≠y
def Asc (R:List En):Prop:=R.Pairwise (fun x y=>ahead x y=true)
def Settled (L R:List En) (e:Int):Prop:=(Clash L/\R=[]/\e=10)∨(¬ Clash L/\e=0/\Asc R/\∀ x,x∈R↔x∈L)
theorem asc_unique:∀ {R R':List En},Asc R -> Asc R' -> (∀ x,x∈R↔x∈R') -> R=R'
 | [],[],_,_,_=>rfl
 | [],b :: _,_,_,h=>absurd ((h b).2 (List.mem_cons_self ..)) (by simp)
 | a :: _,[],_,_,h=>absurd ((h a).1 (List.mem_cons_self ..)) (by simp)
 | a :: R,b :: R',h1,h2,h=>by
  obtain ⟨a1,a2⟩:=List.pairwise_cons.1 h1;obtain ⟨b1,b2⟩:=List.pairwise_cons.1 h2
  have e:a=b:=by
   rcases List.mem_cons.1 ((h a).1 (List.mem_cons_self ..)) with e | e
   ·exact e
   ·rcases List.mem_cons.1 ((h b).2 (List.mem_cons_self ..)) with e' | e'
    ·exact e'.symm
    ·have:=ahead_asymm (a1 b e');rw [b1 a e] at this;cases this
  subst e;rw [asc_unique a2 b2 (fun x=>?_)];have hx:=h x;simp only [List.mem_cons] at hx;constructor
  ·intro hm;rcases hx.1 (Or.inr hm) with e | e
   ·subst e;have:=a1 x hm;rw [ahead_irr] at this;cases this
   ·exact e
  ·intro hm;rcases hx.2 (Or.inr hm) with e | e
   ·subst e;have:=b1 x hm;rw [ahead_irr] at this;cases this
   ·exact e
theorem asc_noclash {R L:List En} (h:Asc R) (hm:∀ x,x∈R↔x∈L):¬ Clash L:=by
 rintro ⟨x,hx,y,hy,hs,hne⟩;have hx:=(hm x).2 hx;have hy:=(hm y).2 hy;clear hm
 induction R with
 | nil=>simp at hx
 | cons a R ih =>
  obtain ⟨a1,a2⟩:=List.pairwise_cons.1 h;rcases List.mem_cons.1 hx with e | e
  ·subst e;rcases List.mem_cons.1 hy with e | e
   ·exact hne e.symm
   ·have:=ahead_same (a1 y e);rw [hs] at this;cases this
  ·rcases List.mem_cons.1 hy with e' | e'
   ·subst e';have:=ahead_same (a1 x e);rw [same_symm,hs] at this;cases this
   ·exact ih a2 e e'
theorem Clash.perm {L R:List En} (h:Clash L) (hm:∀ x,x∈L↔x∈R):Clash R:=by
 obtain ⟨x,hx,y,hy,r⟩:=h;exact ⟨x,(hm x).1 hx,y,(hm y).1 hy,r⟩
theorem Settled.perm {L L' R:List En} {e:Int} (h:Settled L R e) (hm:∀ x,x∈L↔x∈L'):Settled L' R e:=by
 rcases h with ⟨c,r,e1⟩ | ⟨c,e1,a,m⟩
 ·exact Or.inl ⟨c.perm hm,r,e1⟩
 ·exact Or.inr ⟨fun c'=>c (c'.perm (fun x=>(hm x).symm)),e1,a,fun x=>(m x).trans (hm x)⟩

def OnceInv (L:List En) (k:Nat) (acc:List En):Prop:=Asc acc/\∀ x,x∈acc↔x∈L.take k
theorem le_at {L:List En} (hL:L.Pairwise (fun x y=>leE x y=true)) (i j:Nat) (hij:i < j) (hj:j < L.length):leE (L.getD i en0) (L.getD j en0)=true:=by
 have:=List.pairwise_iff_getElem.1 hL i j (by omega) hj hij;simpa [List.getD,hj,show i < L.length by omega] using this
theorem getD_mem (L:List En) (k:Nat) (h:k < L.length):L.getD k en0∈L:=by
 have:L.getD k en0=L[k]:=by simp [List.getD,h]
 rw [this];exact List.getElem_mem _
end Go.Proofs.YtaphmhbmhcahaabGreat.K
namespace Go.Proofs
open Go.Shelf
def Tryz.sortEn_ren:Go.Shelf.Ren:=⟨fun | 6=>96 | 15=>121 | 14=>127 | 28=>150 | 29=>151 | 20=>154 | 21=>155 | 22=>156 | 23=>157 | 24=>158 | 25=>159 | 26=>160 | 27=>161 | 46=>184 | 47=>176 | 48=>177 | 49=>185 | 50=>186 | 57=>203 | n=>n,fun | 22=>22 | 24=>39 | 25=>115 | 3=>3 | 39=>154 | 0=>0 | 53=>181 | 55=>183 | 4=>4 | 46=>175 | 45=>174 | 50=>155 | 5=>5 | 9=>9 | 66=>199 | 70=>203 | 76=>215 | 77=>157 | n=>n,fun | n=>n⟩
theorem Tryz.sortEn:Go.Proofs.SlLaysF0.n6 Tryz.prog Tryz.sortEn_ren:={
 mixed:=by kernel_rfl
 f6:=⟨Tryz.f96.name,by decide,Tryz.func96.trans (congrArg some (by kernel_rfl))⟩
 f14:=⟨Tryz.f127.name,by decide,Tryz.func127.trans (congrArg some (by kernel_rfl))⟩
 f15:=Tryz.func121.trans (congrArg some (by kernel_rfl))
 f20:=⟨Tryz.f154.name,by decide,Tryz.func154.trans (congrArg some (by kernel_rfl))⟩
 f21:=⟨Tryz.f155.name,by decide,Tryz.func155.trans (congrArg some (by kernel_rfl))⟩
 f22:=⟨Tryz.f156.name,by decide,Tryz.func156.trans (congrArg some (by kernel_rfl))⟩
 f23:=⟨Tryz.f157.name,by decide,Tryz.func157.trans (congrArg some (by kernel_rfl))⟩
 f24:=⟨Tryz.f158.name,by decide,Tryz.func158.trans (congrArg some (by kernel_rfl))⟩
 f25:=⟨Tryz.f159.name,by decide,Tryz.func159.trans (congrArg some (by kernel_rfl))⟩
 f26:=⟨Tryz.f160.name,by decide,Tryz.func160.trans (congrArg some (by kernel_rfl))⟩
 f27:=⟨Tryz.f161.name,by decide,Tryz.func161.trans (congrArg some (by kernel_rfl))⟩
 f28:=Tryz.func150.trans (congrArg some (by kernel_rfl))
 f29:=Tryz.func151.trans (congrArg some (by kernel_rfl))
 f46:=⟨Tryz.f184.name,by decide,Tryz.func184.trans (congrArg some (by kernel_rfl))⟩
 f47:=Tryz.func176.trans (congrArg some (by kernel_rfl))
 f48:=Tryz.func177.trans (congrArg some (by kernel_rfl))
 f49:=⟨Tryz.f185.name,by decide,Tryz.func185.trans (congrArg some (by kernel_rfl))⟩
 f50:=⟨Tryz.f186.name,by decide,Tryz.func186.trans (congrArg some (by kernel_rfl))⟩
 f57:=⟨Tryz.f203.name,by decide,Tryz.func203.trans (congrArg some (by kernel_rfl))⟩
 t0:=Tryz.underlying0
 a0:=Tryz.isAgg0
 z0:=Tryz.sizeOf0
 v0:=Tryz.zeroValue0
 t3:=Tryz.underlying3
 a3:=Tryz.isAgg3
 z3:=Tryz.sizeOf3
 v3:=Tryz.zeroValue3
 t4:=Tryz.underlying4
 a4:=Tryz.isAgg4
 z4:=Tryz.sizeOf4
 v4:=Tryz.zeroValue4
 t5:=Tryz.underlying5
 a5:=Tryz.isAgg5
 z5:=Tryz.sizeOf5
 v5:=Tryz.zeroValue5
 t9:=Tryz.underlying9
 a9:=Tryz.isAgg9
 z9:=Tryz.sizeOf9
 v9:=Tryz.zeroValue9
 t22:=Tryz.underlying22
 a22:=Tryz.isAgg22
 z22:=Tryz.sizeOf22
 v22:=Tryz.zeroValue22
 t25:=Tryz.underlying115
 a25:=Tryz.isAgg115
 z25:=Tryz.sizeOf115
 v25:=Tryz.zeroValue115
 t39:=Tryz.underlying154
 a39:=Tryz.isAgg154
 z39:=Tryz.sizeOf154
 v39:=Tryz.zeroValue154
 t45:=Tryz.underlying174
 a45:=Tryz.isAgg174
 z45:=Tryz.sizeOf174
 v45:=Tryz.zeroValue174
 t46:=Tryz.underlying175
 a46:=Tryz.isAgg175
 z46:=Tryz.sizeOf175
 v46:=Tryz.zeroValue175
 t50:=Tryz.underlying155
 a50:=Tryz.isAgg155
 z50:=Tryz.sizeOf155
 v50:=Tryz.zeroValue155
 t53:=Tryz.underlying181
 a53:=Tryz.isAgg181
 z53:=Tryz.sizeOf181
 v53:=Tryz.zeroValue181
 t55:=Tryz.underlying183
 a55:=Tryz.isAgg183
 z55:=Tryz.sizeOf183
 v55:=Tryz.zeroValue183
 t66:=Tryz.underlying199
 a66:=Tryz.isAgg199
 z66:=Tryz.sizeOf199
 v66:=Tryz.zeroValue199
 t70:=Tryz.underlying203
 a70:=Tryz.isAgg203
 z70:=Tryz.sizeOf203
 v70:=Tryz.zeroValue203
 t76:=Tryz.underlying215
 a76:=Tryz.isAgg215
 z76:=Tryz.sizeOf215
 v76:=Tryz.zeroValue215
 t77:=Tryz.underlying157
 a77:=Tryz.isAgg157
 z77:=Tryz.sizeOf157
 v77:=Tryz.zeroValue157 }
end Go.Proofs
namespace Go.Proofs.YtaphmhbmhcahaabGreat.K
section
open Go.RowKit Go.Sort

def encE (e:En):List Value:=(EC e).toList
theorem encE_len (e:En):(encE e).length=4:=rfl
structure MR (W:World) (ad:Addr) (d:Array En):Prop where
 hk:HoldsK encE 4 W ad.block 0 d
 lt:ad.block < W.heap.size
 ha:ad=⟨ad.block,0,none⟩
theorem MR.at {W:World} {ad:Addr} {d:Array En} (M:MR W ad d) (i:Nat) (hi:i < d.size):EnAt W (ad.add (i * 4)) d[i]! := by
 have h:∀ c,c < 4 -> W.cell? ⟨ad.block,i * 4+c,none⟩=some (encE d[i]!)[c]! := fun c hc=>by
  have:=(M.hk.cell hi hc).1;rwa [Nat.zero_add] at this
 rw [M.ha,Addr.add_lit,Nat.zero_add];exact ⟨h 0 (by omega),by rw [Addr.add_lit];exact h 1 (by omega),by rw [Addr.add_lit];exact h 2 (by omega),by rw [Addr.add_lit];exact h 3 (by omega)⟩
theorem MR.on {W W':World} {ad:Addr} {d:Array En} (M:MR W ad d) (hb:Below W.heap.size W W'):MR W' ad d:=
 ⟨fun j hj=>by rw [hb.cell (p:=⟨ad.block,0+j,none⟩) M.lt,hb.frozen (p:=⟨ad.block,0+j,none⟩) M.lt];exact M.hk j hj,Nat.lt_of_lt_of_le M.lt hb.size,M.ha⟩
theorem flat_set (d:Array En) (i:Nat) (e:En) (hi:i < d.size):setMany (flatK encE 4 d) (i * 4) (encE e)=flatK encE 4 (d.setIfInBounds i e):=by
 refine ext_get! (by simp) fun t ht=>?_
 have ht':t < d.size * 4:=by simpa using ht
 rw [get_setMany _ _ _ t (by simpa using ht'),get_flatK _ _ _ t ht',get_flatK _ _ _ t (by simpa using ht'),encE_len];by_cases a:t / 4=i
 ·rw [if_pos ((blk_iff 4 i t (by omega)).2 a),a,getElem!_set_same d i e hi,show t - i * 4=t % 4 by omega]
 ·rw [if_neg (fun h=>a ((blk_iff 4 i t (by omega)).1 h)),getElem!_set_other d i _ e a]
theorem below_put (W:World) (g:Nat) (F:Array Value):Below g W (putRow id W g 0 F):=Lib.below_putRow (q:=0) (Below.refl g W) (Nat.le_refl _)
theorem MR.setCells {W:World} {ad:Addr} {d:Array En} (M:MR W ad d) (i:Nat) (e:En) (hi:i < d.size) :
  W.setCells ad.block (i * 4) (encE e)=putRowK encE 4 W ad.block 0 (d.setIfInBounds i e):=by
 have h1:=putRowK_self encE 4 W ad.block 0 d M.hk;have h2:=setCells_putRow W ad.block 0 (encE e) (i * 4) (flatK encE 4 d) (by rw [encE_len,size_flatK];have:=Nat.mul_le_mul_right 4 (show i+1 <= d.size from hi);omega);unfold putRowK at h1;rw [h1,flat_set d i e hi,Nat.zero_add] at h2;exact h2
theorem MR.store {W:World} {ad:Addr} {d:Array En} (M:MR W ad d) (i:Nat) (e:En) (hi:i < d.size) :
  ∃ W':World,(st28 (.pointer (some (ad.add (i * 4)))) (EV e)).run Tryz.prog W = .ok () W'/\MR W' ad (d.setIfInBounds i e)/\Below ad.block W W'/\W'.heap.size=W.heap.size:=by
 have hs:=stores_of_holds Tryz.prog (W:=W) (blk:=ad.block) (off:=0) (F:=flatK encE 4 d) M.hk (i * 4) (encE e) (by rw [encE_len,size_flatK];have:=Nat.mul_le_mul_right 4 (show i+1 <= d.size from hi);omega) (EC_one e);rw [Nat.zero_add,M.setCells i e hi] at hs;refine ⟨_,?_,⟨holdsK_putRowK encE 4 W ad.block 0 d _ M.hk (by simp),by show ad.block < (putRow id W ad.block 0 _).heap.size;rw [size_putRow];exact M.lt,M.ha⟩,below_put W ad.block _,size_putRow _ _ _ _ _⟩;have ha:=M.ha;rw [ha,Addr.add_lit,Nat.zero_add];unfold st28
 cases hq:Tryz.prog.info? 39 with
 | none=>have:=size28;simp [hq] at this
 | some x =>
  have hz:x.size=4:=by have:=size28;simpa [hq] using this
  have hs':(storeCells ⟨ad.block,i * 4,none⟩ (EC e).toList 0).run Tryz.prog W = .ok () (putRowK encE 4 W ad.block 0 (d.setIfInBounds i e)):=hs;simp only [Instr.storeAt,Instr.sureAddr,Sem.run_bind,Sem.run_pure,Result.andThen,storeVar,sizeOf,typeInfo,cells_EV,EC_size];simp [hs',hq,hz]
theorem flat_lay (d:Array En):∀ (xs:List En) (i:Nat),i+xs.length <= d.size -> setMany (flatK encE 4 d) (i * 4) (xs.map encE).flatten=flatK encE 4 (Lib.lay d i xs)
 | [],_,_=>rfl
 | x :: r,i,h=>by
  have hi:i < d.size:=by simp at h;omega
  have key:∀ (F:Array Value) (s:Nat) (a b:List Value),setMany F s (a++b)=setMany (setMany F s a) (s+a.length) b:=by
   intro F s a
   induction a generalizing F s with
   | nil=>intro b;rfl
   | cons v a ih=>intro b;simp only [List.cons_append,setMany,List.length_cons];rw [ih,show s+1+a.length=s+(a.length+1) by omega]
  rw [List.map_cons,List.flatten_cons,key,flat_set d i x hi,encE_len,show i * 4+4=(i+1) * 4 by omega];exact flat_lay (d.setIfInBounds i x) r (i+1) (by simp at h ⊢;omega)
theorem zero29 (w:World):(zeroValue 39).run Tryz.prog w = .ok (EV en0) w:=Tryz.zeroValue39 w
theorem zeros (n:Nat):(Builtin.zeroCells (EC en0) n).toList=((List.replicate n en0).map encE).flatten:=by
 show _=ecs (List.replicate n en0)
 apply List.ext_getElem?;intro t;by_cases ht:t < n * 4
 ·have h2:=ecs_at (List.replicate n en0) (t / 4) (t % 4) (by simp;omega) (by omega);rw [show t / 4 * 4+t % 4=t by omega] at h2
  have hg:(List.replicate n en0).getD (t / 4) en0=en0:=by simp [List.getD,show t / 4 < n by omega]
  rw [h2,hg]
  have h1:(Builtin.zeroCells (EC en0) n).toList[t]? = some ((EC en0)[t % 4]!):=by simp [Builtin.zeroCells,EC_size,ht]
  rw [h1]
  have:t % 4=0∨t % 4=1∨t % 4=2∨t % 4=3:=by omega
  rcases this with h | h | h | h <;> rw [h] <;> rfl
 ·rw [List.getElem?_eq_none (by simp [Builtin.zeroCells,EC_size];omega),List.getElem?_eq_none (by rw [ecs_length];simp;omega)]
theorem lay_size (d:Array En):∀ (xs:List En) (k:Nat),(Lib.lay d k xs).size=d.size:=by
 intro xs
 induction xs generalizing d with
 | nil=>intro k;rfl
 | cons x r ih=>intro k;rw [Lib.lay,ih];simp
theorem MR.clear {W:World} {ad:Addr} {d:Array En} (M:MR W ad d) (kk:Nat) (hk:kk < d.size) (c:Nat) :
  ∃ (W':World) (d':Array En),(∀ ty,(Builtin.clear_ #[22] ty #[.slice (some (ad.add (kk * 4))) (d.size - kk) c]).run Tryz.prog W = .ok (.tuple #[]) W')/\MR W' ad d'/\d'.size=d.size/\(∀ j,j < kk -> d'[j]! = d[j]!)/\Below ad.block W W'/\W'.heap.size=W.heap.size:=by
 obtain ⟨m,hm⟩:∃ m,d.size - kk=m:=⟨_,rfl⟩;have h1:=putRowK_self encE 4 W ad.block 0 d M.hk
 have hlen:(((List.replicate m en0).map encE).flatten).length=m * 4:=by
  have:=ecs_length (List.replicate m en0);rwa [List.length_replicate] at this
 have hs:=stores_of_holds Tryz.prog (W:=W) (blk:=ad.block) (off:=0) (F:=flatK encE 4 d) M.hk (kk * 4) ((List.replicate m en0).map encE).flatten (by rw [hlen,size_flatK];omega) (by
  intro v hv;obtain ⟨l,hl,hv⟩:=List.mem_flatten.1 hv;obtain ⟨e,_,rfl⟩:=List.mem_map.1 hl
  exact EC_one e v hv)
 have h2:=setCells_putRow W ad.block 0 ((List.replicate m en0).map encE).flatten (kk * 4) (flatK encE 4 d) (by rw [hlen,size_flatK];omega);unfold putRowK at h1;rw [h1,flat_lay d (List.replicate m en0) kk (by simp;omega),Nat.zero_add] at h2;rw [Nat.zero_add,h2] at hs;refine ⟨_,Lib.lay d kk (List.replicate m en0),fun ty=>?_,⟨holdsK_putRowK encE 4 W ad.block 0 d _ M.hk (lay_size _ _ _),by show ad.block < (putRow id W ad.block 0 _).heap.size;rw [size_putRow];exact M.lt,M.ha⟩,lay_size _ _ _,fun j hj=>?_,below_put W ad.block _,size_putRow _ _ _ _ _⟩
 ·have ha:=M.ha;rw [ha,Addr.add_lit,Nat.zero_add,hm];obtain ⟨m',rfl⟩:∃ m',m=m'+1:=⟨m - 1,by omega⟩;have hz:=zero29 W;simp [Builtin.clear_,run_underlying Tryz.underlying22,hz];rw [cells_EV,zeros,hs];rfl
 ·have:=Lib.lay_get? (List.replicate m en0) d kk j (by simp;omega);rw [if_neg (by omega)] at this;rw [getElem!_def,getElem!_def,this]
def Grew (w w':World):Prop:=∃ q os,w'=grow (w.drewN q) os
theorem grew_by (w:World) (a b c:Obj):Grew w (((w.alloc a).alloc b).drew.alloc c):=by
 refine ⟨1,#[a]++#[b]++#[c],?_⟩;rw [alloc_eq_grow ((w.alloc a).alloc b).drew c,alloc_eq_grow (w.alloc a) b,alloc_eq_grow w a,grow_grow,drew_grow,grow_grow];rfl
theorem byDot_gr (x y:En) (w:World):Calls Tryz.prog 75 #[enV x,enV y] w fun e w'=>e = .returned (.int .i64 (byD x y))/\Grew w w':=by
 have T0:=hide (Two.start w x y);obtain ⟨w0,Hw0⟩:∃ w0,Hid ((w.alloc (.cells #[.int .i64 x.rep,.int .i64 x.num,.string x.sku,.int .i64 x.qty] 39)).alloc (.cells #[.int .i64 y.rep,.int .i64 y.num,.string y.sku,.int .i64 y.qty] 39)=w0):=⟨_,rfl⟩;rw [Hw0.out] at T0;have c1:=T0.out.a0;have c2:=T0.out.a1;have c3:=T0.out.b0;have c4:=T0.out.b1;obtain ⟨p,Hp⟩:∃ p,Hid (cmpI x.rep y.rep=p):=⟨_,rfl⟩;obtain ⟨q,Hq⟩:∃ q,Hid (cmpI x.num y.num=q):=⟨_,rfl⟩
 have C1:Hid (∀ W,Calls Tryz.prog 115 #[.int .i64 x.rep,.int .i64 y.rep] W fun e w'=>e = .returned (.int .i64 p)/\w'=W):=fun W=>by rw [<- Hp.out];exact cmp_any _ _ W
 have C2:Hid (∀ W,Calls Tryz.prog 115 #[.int .i64 x.num,.int .i64 y.num] W fun e w'=>e = .returned (.int .i64 q)/\w'=W):=fun W=>by rw [<- Hq.out];exact cmp_any _ _ W
 have HF:Hid (or2 p q=byD x y):=by show _=_;unfold byD;rw [Hp.out,Hq.out]
 have T1:Hid (Two w (w0.drew.alloc (.cells #[.int .i64 p,.int .i64 q] 3)) x y):=(T0.out.on (below_drew (Below.refl _ _))).on (below_new _ _);have HO:=hide (or_new p q w0.drew w0.heap.size rfl)
 have HG:Hid (Grew w (w0.drew.alloc (.cells #[.int .i64 p,.int .i64 q] 3))):=by rw [<- Hw0.out];exact grew_by _ _ _ _
 obtain ⟨r,m,s,q⟩:=x;obtain ⟨r',m',s',q'⟩:=y;go_enter Tryz.func75,Tryz.ntmps75;go_wp2_with fail;rw [Hw0.out]
 first | (go_region_held (fun W=>W.cell? ⟨w.heap.size,0,none⟩=some (.int .i64 r)/\W.cell? ⟨w.heap.size,1,none⟩=some (.int .i64 m)/\W.cell? ⟨w.heap.size+1,0,none⟩=some (.int .i64 r')/\W.cell? ⟨w.heap.size+1,1,none⟩=some (.int .i64 m')) (first | exact ⟨T1.out.a0,T1.out.a1,T1.out.b0,T1.out.b1⟩ | go_keep) (first | (go_at_call_of 115 r;refine (C1.out _).mono ?_;rintro e w' ⟨rfl,rfl⟩) | (go_at_call_of 115 m;refine (C2.out _).mono ?_;rintro e w' ⟨rfl,rfl⟩) | (go_at_call 114;refine HO.out.mono ?_;rintro e w' ⟨rfl,rfl⟩))) | fail
 all_goals (go_wp2_with fail)
 all_goals go_ret
 all_goals exact ⟨ret_int HF.out,HG.out⟩
theorem byD_lt (x y:En):ltOf byD x y=ahead x y:=by
 unfold ltOf byD or2 cmpI ahead;by_cases h1:x.rep < y.rep
 ·simp [h1]
 ·by_cases h2:y.rep < x.rep
  ·have:¬ x.rep=y.rep:=by omega
   simp [h1,h2,this]
  ·have e:x.rep=y.rep:=by omega
   by_cases h3:x.num < y.num
   ·simp [e,h3]
   ·by_cases h4:y.num < x.num <;> simp [e,h3,h4]
theorem byD_swo:SWO (ltOf byD) where
 irrefl x:=by rw [byD_lt];exact ahead_irr x
 trans x y z h1 h2:=by rw [byD_lt] at *;exact ahead_trans h1 h2
 ntrans x y z h1 h2:=by rw [byD_lt] at *;simp [ahead] at *;omega
theorem cmpLays (blk size:Nat) (w:World):CmpLays Tryz.prog 75 #[] encE 4 byD blk 0 size w:=
 fun _ _ _ _ x y=>byDot_gr x y _
theorem sortFunc_any (ad:Addr) (cap n:Nat) (d:Array En) (w:World) (M:MR w ad d) (hn:d.size=n) (hb:n <= 3518437208883) :
  Calls Tryz.prog 96 #[.slice (some ad) n cap,.func (.func 75) #[] #[]] w fun e w'=>e = .returned (.tuple #[])/\∃ d',d'.toList.Perm d.toList/\d'.toList.Pairwise (fun x y=>leE x y=true)/\MR w' ad d'/\Below ad.block w w':=by
 subst hn;have eg:∀ args w,(callFunc 75 args).run Tryz.prog w = .ok (.enter 75 args) w:=enters_of Tryz.func75 (by kernel_rfl) rfl;have h:=AnyQ.slices_SortFunc Tryz.sortEn 4 Tryz.isAgg39 Tryz.sizeOf39 encE (fun _=>rfl) (fun x v hv=>EC_one x v hv) byD byD_swo 75 #[] ad.block 0 cap d w eg (cmpLays ad.block d.size w) M.hk M.lt (by omega);rw [<- M.ha] at h;refine Calls.mono h ?_;rintro e w' ⟨rfl,d',m,os,⟨hs,_,hp⟩,hsr,rfl⟩;refine ⟨rfl,d',?_,?_,⟨holdsK_sortWorldK_c encE 4 w ad.block 0 d d' m os M.hk M.lt hs,?_,M.ha⟩,?_⟩
 ·have e1:d'.extract 0 d.size=d':=by rw [<- hs];simp
  have e2:d.extract 0 d.size=d:=by simp
  rwa [e1,e2] at hp
 ·rw [List.pairwise_iff_getElem];intro i j hi hj hij;have:=hsr i j (Nat.zero_le _) hij (by rw [<- hs];simpa using hj);rw [byD_lt] at this;rw [getElem!_pos d' j (by simpa using hj),getElem!_pos d' i (by simpa using hi)] at this;simp only [Array.getElem_toList];unfold leE;rw [this];rfl
 ·have:=M.lt
  show ad.block < (grow (putRow id (Sort.ahead w m) ad.block 0 (flatK encE 4 d')) os).heap.size
  show ad.block < ((putRow id (Sort.ahead w m) ad.block 0 (flatK encE 4 d')).heap++os).size
  rw [Array.size_append,size_putRow]
  show ad.block < w.heap.size+os.size
  omega
 ·have h1:Below ad.block w (putRow id (Sort.ahead w m) ad.block 0 (flatK encE 4 d')):=Lib.below_putRow (Below.refl _ _) (Nat.le_refl _);refine h1.trans ?_
  have hsz:ad.block <= (putRow id (Sort.ahead w m) ad.block 0 (flatK encE 4 d')).heap.size:=by rw [size_putRow];exact Nat.le_of_lt M.lt
  show Below ad.block _ (grow (putRow id (Sort.ahead w m) ad.block 0 (flatK encE 4 d')) os)
  generalize putRow id (Sort.ahead w m) ad.block 0 (flatK encE 4 d')=V at hsz;exact ⟨rfl,rfl,rfl,by show _ <= (V.heap++os).size;rw [Array.size_append];omega,fun k hk=>by show (V.heap++os)[k]? = _;rw [Array.getElem?_append_left (by omega)]⟩
end
section
open Go.RowKit
attribute [local go_sem ↓] ld28_eq st28_eq ld26_eq
attribute [local go_sem] zero_EC cells_EV EC_size fold_EC
theorem run_eqD (x y:En) (w:World):(Op.equalIn 10000 37 (.agg (DC x)) (.agg (DC y))).run Tryz.prog w = .ok (sameDot x y) w:=by
 have u3:=Tryz.underlying3;have a3:=Tryz.isAgg3;have z3:=Tryz.sizeOf3
 have hS:Tryz.prog.underlying 37=some (.struct (Tryz.prog.fieldsOf 37)):=by kernel_rfl
 have hp:Tryz.prog.stoodInHeld 37=false:=by kernel_rfl
 obtain ⟨a,b,_,_⟩:=x;obtain ⟨c,d,_,_⟩:=y
 show (Op.equalIn 10000 37 (.agg #[.int .i64 a,.int .i64 b]) (.agg #[.int .i64 c,.int .i64 d])).run Tryz.prog w = .ok (a == c && b == d) w
 rw [show (10000:Nat)=9999+1 from rfl,run_equalIn_struct w 9999 37 _ _ hS hp];simp only [Program.fieldsOf,Tryz.underlying37];go_simp;by_cases h1:a=c <;> by_cases h2:b=d <;> simp [h1,h2]
attribute [local go_sem ↓] run_eq28 run_eqD
theorem eqE_iff (x y:En):eqE x y=true↔x=y:=by
 constructor
 ·intro h;obtain ⟨a,b,s,c⟩:=x;obtain ⟨a',b',s',c'⟩:=y;simp only [eqE,Bool.and_eq_true,beq_iff_eq] at h;obtain ⟨⟨⟨rfl,rfl⟩,h3⟩,rfl⟩:=h
  have:s=s':=by
   rw [ByteArray.toList_eq,ByteArray.toList_eq] at h3
   cases s;cases s';simp at h3;simp [h3]
  rw [this]
 ·rintro rfl;exact eqE_self _
def GivesT (w w':World) (e:Ending) (L:List En):Prop:=∃ ao n c R er,e = .returned (.tuple #[.slice ao n c,.int .i64 er])/\ESrc w' ao n c R/\Below w.heap.size w w'/\(∀ ad,ao=some ad -> w.heap.size <= ad.block)/\Settled L R er
end
section
open Go.RowKit Go.Lib
attribute [local go_sem ↓] ld28_eq st28_eq run_eq28
attribute [local go_sem] zero_EC cells_EV EC_size
theorem add_add (p:Addr) (i j:Nat):(p.add i).add j=p.add (i+j):=by
 unfold Addr.add;split <;> split <;> simp_all [Nat.add_assoc]
def cl22 (a:Value):Sem Value:=Builtin.clear_ #[22] 0 #[a]
theorem cl22_eq (a:Value):Builtin.clear_ #[22] 0 #[a]=cl22 a:=rfl
attribute [local go_sem ↓] cl22_eq
def CompOut (w w':World) (e:Ending) (ad:Addr) (cap:Nat) (d:Array En):Prop:=
 ∃ k d',e = .returned (.slice (some ad) k cap)/\MR w' ad d'/\k <= d.size/\d'.size=d.size/\d'.toList.take k=compactUpTo d d.size/\Below ad.block w w'
theorem compOut_all {w w':World} {ad:Addr} {cap n:Nat} {d:Array En} (hn:d.size=n) (M:MR w' ad d) (hb:Below ad.block w w') (hall:∀ j,j < d.size -> keeps d j=true):CompOut w w' (.returned (.slice (some ad) n cap)) ad cap d:=
 ⟨n,d,rfl,M,by omega,rfl,by rw [compactUpTo_all d _ hall,range_map_get,List.take_of_length_le (by simp;omega)],hb⟩
theorem comp_low {d dk d':Array En} {n kk:Nat} (hI:CompInv d n kk dk) (hn:d.size=n) (hs:d'.size=dk.size) (hl:∀ j,j < kk -> d'[j]! = dk[j]!):d'.toList.take kk=compactUpTo d d.size:=by
 rw [hn];have hkk:=hI.lt;have hsz:=hI.size;apply List.ext_getElem?;intro j;by_cases hj:j < kk
 ·rw [hI.low j hj,<- hl j hj,List.getElem?_take,if_pos hj,Array.getElem?_toList,Array.getElem?_eq_getElem (by omega),getElem!_pos d' j (by omega)]
 ·rw [List.getElem?_eq_none (by rw [List.length_take];omega),List.getElem?_eq_none (by rw [hI.len];omega)]
theorem compact_any (ad:Addr) (cap n:Nat) (d:Array En) (w:World) (M:MR w ad d) (hn:d.size=n) (hb:n <= 3518437208883) (hcap:n <= cap) (hcm:cap <= 9223372036854775807) :
  Calls Tryz.prog 97 #[.slice (some ad) n cap] w fun e w'=>CompOut w w' e ad cap d:=by
 have HM:=hide M;have HN:=hide hn;have HLT:Hid (ad.block <= w.heap.size):=Nat.le_of_lt M.lt;clear M hn;by_cases h2:n < 2
 ·have HF:Hid (CompOut w w (.returned (.slice (some ad) n cap)) ad cap d):=compOut_all HN.out HM.out (Below.refl _ _) (fun j hj=>keeps_lt_one d j (by have:=HN.out;omega));go_enter Tryz.func97,Tryz.ntmps97;go_wp2_with fail;go_ret;exact HF.out
 ·go_enter Tryz.func97,Tryz.ntmps97;go_wp2_with fail;go_loopg [3] n (fun g s wr=>∃ k:Nat,1 <= k/\k <= n/\n - k <= g/\s = .int .i64 k/\Hid (Below w.heap.size w wr/\∀ j,j < k -> keeps d j=true))
  case atStart=>exact ⟨1,Nat.le_refl _,by omega,by omega,rfl,Below.refl _ _,keeps_lt_one d⟩
  case round =>
   obtain ⟨k,hk1,hk,hg,rfl,H⟩:=hrel
   rename World=>w4
   have HM4:=hide (HM.out.on H.out.1);by_cases hlt:k < n
   ·obtain ⟨j,hj⟩:∃ j,k - 1=j:=⟨_,rfl⟩
    have hz:IntKind.i64.wrap ((k:Int) - 1)=(j:Int):=by rw [IntKind.wrap_i64];omega
    have hjn:j < n:=by omega
    have A0:=hide (HM4.out.at k (by rw [HN.out];exact hlt));have A1:=hide (HM4.out.at j (by rw [HN.out];exact hjn));obtain ⟨x,Hx⟩:∃ x,Hid (d[k]! = x):=⟨_,rfl⟩;obtain ⟨y,Hy⟩:∃ y,Hid (d[j]! = y):=⟨_,rfl⟩;rw [Hx.out] at A0;rw [Hy.out] at A1;have Hj:=hide hj;clear hj;have l0:∀ d os,(ld28 (.pointer (some (ad.add (k * 4))))).run Tryz.prog (Sort.grow (redrawn w4 d) os) = .ok (EV x) (Sort.grow (redrawn w4 d) os):=fun d os=>run_ld28 (A0.out.on (below_regrown w4 d os));have l1:∀ d os,(ld28 (.pointer (some (ad.add (j * 4))))).run Tryz.prog (Sort.grow (redrawn w4 d) os) = .ok (EV y) (Sort.grow (redrawn w4 d) os):=fun d os=>run_ld28 (A1.out.on (below_regrown w4 d os));obtain ⟨q,hq⟩:∃ q,eqE x y=q:=⟨_,rfl⟩
    cases q with
    | false =>
     have HK:Hid (keeps d k=true):=keeps_pos (by rw [Hj.out,Hx.out,Hy.out];intro h;rw [(eqE_iff x y).2 h] at hq;cases hq);go_wp2_with fail;refine wp_region_quiet_below (by kernel_rfl) (by kernel_rfl) ?_
     repeat (with_reducible (refine wpQuiet_step ?_);intro K hK;go_simp;(try rw [if_neg (by unfold undef;simp)]);first | (with_reducible (refine hK _ ?_);clear hK K) | (apply Exists.intro;refine ⟨fun _=>?_,hK _ ?_⟩;(fail);clear hK K))
     with_reducible (refine wpQuiet_nil ?_)
     intro w5 hw';obtain ⟨⟨dq,osq⟩,hw''⟩:=hw'
     have b5:Below w4.heap.size w4 w5:=by rw [hw''];exact below_regrown w4 dq osq
     clear hw'' dq osq
     have H5:Hid (Below w.heap.size w w5/\∀ j,j < k+1 -> keeps d j=true):=⟨H.out.1.trans (b5.mono H.out.1.size),fun i hi=>by
      by_cases e:i=k
      ·rw [e];exact HK.out
      ·exact H.out.2 i (by omega)⟩
     clear b5 l0 l1;go_wp2_with fail;go_roundg (n - (k+1))
     case measure=>omega
     case rel=>exact ⟨k+1,by omega,by omega,Nat.le_refl _,by go_num,H5⟩
    | true =>
     have HK:Hid (keeps d k=false):=keeps_neg (by omega) (by rw [Hj.out,Hx.out,Hy.out];exact (eqE_iff x y).1 hq);go_wp2_with fail;refine wp_region_quiet_below (by kernel_rfl) (by kernel_rfl) ?_
     repeat (with_reducible (refine wpQuiet_step ?_);intro K hK;go_simp;(try rw [if_neg (by unfold undef;simp)]);first | (with_reducible (refine hK _ ?_);clear hK K) | (apply Exists.intro;refine ⟨fun _=>?_,hK _ ?_⟩;(fail);clear hK K))
     with_reducible (refine wpQuiet_nil ?_)
     intro w5 hw';obtain ⟨⟨dq,osq⟩,hw''⟩:=hw'
     have b5:Below w4.heap.size w4 w5:=by rw [hw''];exact below_regrown w4 dq osq
     clear hw'' dq osq;have HM5:=hide (HM4.out.on b5);have HB5:Hid (Below ad.block w w5):=(H.out.1.mono HLT.out).trans (b5.mono (Nat.le_trans HLT.out H.out.1.size));have HC5:Hid (CompInv d (k+1) k d):=CompInv.start H.out.2 HK.out;clear b5 l0 l1 hq;go_wp2_with fail;go_loopg [3,5] n (fun g s3 s5 wr=>∃ (kk k2:Nat) (dk:Array En),1 <= k2/\k+k2 <= n/\kk < n/\n - (k+k2) <= g/\s3 = .int .i64 kk/\s5 = .int .i64 k2/\Hid (MR wr ad dk/\CompInv d (k+k2) kk dk/\Below ad.block w wr))
     case atStart=>exact ⟨k,1,d,Nat.le_refl _,by omega,hlt,by omega,rfl,rfl,HM5.out,HC5.out,HB5.out⟩
     case round =>
      obtain ⟨kk,k2,dk,hk2,hkn,hkk,hg2,rfl,rfl,HI⟩:=hrel
      rename World=>w6
      clear HM5 HC5 HB5 HM4 A0 A1;have HD:Hid (dk.size=n):=HI.out.2.1.size.trans HN.out;by_cases hlt2:k2 < n - k
      ·obtain ⟨j2,hj2⟩:∃ j2,k2 - 1=j2:=⟨_,rfl⟩
       have hz2:IntKind.i64.wrap ((k2:Int) - 1)=(j2:Int):=by rw [IntKind.wrap_i64];omega
       have hjn2:j2 < n - k:=by omega
       have A0:=hide (HI.out.1.at (k+k2) (by rw [HD.out];omega));have A1:=hide (HI.out.1.at (k+j2) (by rw [HD.out];omega));have hkk2:=HI.out.2.1.lt;obtain ⟨u,Hu⟩:∃ u,Hid (d[k+k2]! = u):=⟨_,rfl⟩;obtain ⟨v,Hv⟩:∃ v,Hid (d[k+j2]! = v):=⟨_,rfl⟩;rw [HI.out.2.1.high (k+k2) (by omega),Hu.out,Nat.add_mul,<- add_add] at A0;rw [HI.out.2.1.high (k+j2) (by omega),Hv.out,Nat.add_mul,<- add_add] at A1
       have Hj2:Hid (k+k2 - 1=k+j2):=by show _=_;omega
       clear hj2;have l0:∀ d os,(ld28 (.pointer (some ((ad.add (k * 4)).add (k2 * 4))))).run Tryz.prog (Sort.grow (redrawn w6 d) os) = .ok (EV u) (Sort.grow (redrawn w6 d) os):=fun d os=>run_ld28 (A0.out.on (below_regrown w6 d os));have l1:∀ d os,(ld28 (.pointer (some ((ad.add (k * 4)).add (j2 * 4))))).run Tryz.prog (Sort.grow (redrawn w6 d) os) = .ok (EV v) (Sort.grow (redrawn w6 d) os):=fun d os=>run_ld28 (A1.out.on (below_regrown w6 d os));obtain ⟨q2,hq2⟩:∃ q2,eqE u v=q2:=⟨_,rfl⟩
       cases q2 with
       | true =>
        have HNX:Hid (CompInv d (k+k2+1) kk dk):=HI.out.2.1.skip (keeps_neg (by omega) (by rw [Hj2.out,Hu.out,Hv.out];exact (eqE_iff u v).1 hq2));go_wp2_with fail;refine wp_region_quiet_below (by kernel_rfl) (by kernel_rfl) ?_
        repeat (with_reducible (refine wpQuiet_step ?_);intro K hK;go_simp;(try rw [if_neg (by unfold undef;simp)]);first | (with_reducible (refine hK _ ?_);clear hK K) | (apply Exists.intro;refine ⟨fun _=>?_,hK _ ?_⟩;(fail);clear hK K))
        with_reducible (refine wpQuiet_nil ?_)
        intro w7 hw';obtain ⟨⟨dq,osq⟩,hw''⟩:=hw'
        have b7:Below w6.heap.size w6 w7:=by rw [hw''];exact below_regrown w6 dq osq
        clear hw'' dq osq;have H7:Hid (MR w7 ad dk/\CompInv d (k+(k2+1)) kk dk/\Below ad.block w w7):=⟨HI.out.1.on b7,HNX.out,HI.out.2.2.trans (b7.mono (Nat.le_of_lt HI.out.1.lt))⟩;clear b7 l0 l1;go_wp2_with fail;go_roundg (n - (k+(k2+1)))
        case measure=>omega
        case rel=>exact ⟨kk,k2+1,dk,by omega,by omega,hkk,Nat.le_refl _,rfl,by go_num,H7⟩
       | false =>
        have HNX:Hid (CompInv d (k+k2+1) (kk+1) (dk.setIfInBounds kk u)):=by
         have:=HI.out.2.1.keep (by rw [HN.out];omega) (keeps_pos (by rw [Hj2.out,Hu.out,Hv.out];intro h;rw [(eqE_iff u v).2 h] at hq2;cases hq2));rwa [Hu.out] at this
        go_wp2_with fail;refine wp_region_quiet_below (by kernel_rfl) (by kernel_rfl) ?_
        repeat (with_reducible (refine wpQuiet_step ?_);intro K hK;go_simp;(try rw [if_neg (by unfold undef;simp)]);first | (with_reducible (refine hK _ ?_);clear hK K) | (apply Exists.intro;refine ⟨fun _=>?_,hK _ ?_⟩;(fail);clear hK K))
        with_reducible (refine wpQuiet_nil ?_)
        intro w7 hw';obtain ⟨⟨dq,osq⟩,hw''⟩:=hw'
        have b7:Below w6.heap.size w6 w7:=by rw [hw''];exact below_regrown w6 dq osq
        clear hw'' dq osq;have l7:=run_ld28 (A0.out.on b7);obtain ⟨w8,hst,M8,B8,_⟩:=(HI.out.1.on b7).store kk u (by rw [HD.out];exact hkk);have H8:Hid (MR w8 ad (dk.setIfInBounds kk u)/\CompInv d (k+(k2+1)) (kk+1) (dk.setIfInBounds kk u)/\Below ad.block w w8):=⟨M8,HNX.out,(HI.out.2.2.trans (b7.mono (Nat.le_of_lt HI.out.1.lt))).trans B8⟩;clear b7 l0 l1 M8 B8;go_wp2_with fail;go_roundg (n - (k+(k2+1)))
        case measure=>omega
        case rel=>exact ⟨kk+1,k2+1,dk.setIfInBounds kk u,by omega,by omega,by omega,Nat.le_refl _,by go_num,by go_num,H8⟩
      ·have hend:k+k2=n:=by omega
       obtain ⟨w7,d',hcl,M7,hs7,hl7,B7,_⟩:=HI.out.1.clear kk (by rw [HD.out];exact hkk) (cap - kk);rw [HD.out] at hcl;have hcl0:(cl22 (.slice (some (ad.add (kk * 4))) (n - kk) (cap - kk))).run Tryz.prog w6 = .ok (.tuple #[]) w7:=hcl 0
       have HF:Hid (CompOut w w7 (.returned (.slice (some ad) kk cap)) ad cap d):=by
        have hI:=HI.out.2.1;rw [hend] at hI;exact ⟨kk,d',rfl,M7,by rw [HN.out];omega,hs7.trans hI.size,comp_low hI HN.out hs7 hl7,HI.out.2.2.trans B7⟩
       clear hcl M7 hs7 hl7 B7;go_wp2_with fail;go_ret;exact HF.out
   ·have HF:Hid (CompOut w w4 (.returned (.slice (some ad) n cap)) ad cap d):=compOut_all HN.out HM4.out (H.out.1.mono HLT.out) (fun j hj=>H.out.2 j (by have:=HN.out;omega));go_wp2_with fail;go_ret;exact HF.out
end
section
open Go.RowKit Go.Lib

theorem cmp_sub (d:Array En):(compactUpTo d d.size).Sublist d.toList:=by
 have h:(compactUpTo d d.size).Sublist ((List.range d.size).map (d[·]!)):=List.filter_sublist.map _;rwa [range_map_get] at h
theorem bang_at (d:Array En) (i:Nat) (h:i < d.size):d[i]! = d[i]:=getElem!_pos d i h
theorem cmp_mem (d:Array En) (m:Nat):m <= d.size -> ∀ j,j < m -> d[j]! ∈ compactUpTo d m:=by
 induction m with
 | zero=>intro _ j hj;omega
 | succ m ih =>
  intro hm j hj;rw [compactUpTo_succ];by_cases e:j=m
  ·subst e;by_cases hk:keeps d j=true
   ·rw [if_pos hk];simp
   ·rw [if_neg hk,List.append_nil]
    have hk':¬ (j=0∨d[j]! ≠ d[j - 1]!):=by simpa [keeps] using hk
    have h0:¬ j=0:=fun h=>hk' (Or.inl h);have h1:d[j]! = d[j - 1]! := Classical.byContradiction fun h=>hk' (Or.inr h);rw [h1];exact ih (by omega) (j - 1) (by omega)
  ·exact List.mem_append_left _ (ih (by omega) j (by omega))
theorem cmp_iff (d:Array En) (x:En):x∈compactUpTo d d.size↔x∈d.toList:=by
 constructor
 ·exact fun h=>(cmp_sub d).mem h
 ·intro h;obtain ⟨i,hi,rfl⟩:=List.mem_iff_getElem.1 h
  have hi':i < d.size:=by simpa using hi
  have:=cmp_mem d d.size (Nat.le_refl _) i hi';rw [bang_at d i hi'] at this;simpa using this
theorem cmp_last (d:Array En) (m:Nat):0 < m -> (compactUpTo d m).getLast? = some d[m - 1]! := by
 induction m with
 | zero=>intro h;omega
 | succ m ih =>
  intro _;rw [compactUpTo_succ];by_cases hk:keeps d m=true
  ·rw [if_pos hk];simp
  ·rw [if_neg hk,List.append_nil]
   have hk':¬ (m=0∨d[m]! ≠ d[m - 1]!):=by simpa [keeps] using hk
   have h0:¬ m=0:=fun h=>hk' (Or.inl h);have h1:d[m]! = d[m - 1]! := Classical.byContradiction fun h=>hk' (Or.inr h);rw [ih (by omega),show m+1 - 1=m by omega,h1]
theorem cmp_adj (d:Array En) (m:Nat):∀ i,i+1 < (compactUpTo d m).length -> (compactUpTo d m).getD i en0≠(compactUpTo d m).getD (i+1) en0:=by
 induction m with
 | zero=>intro i hi;simp [compactUpTo] at hi
 | succ m ih =>
  intro i hi;by_cases hk:keeps d m=true
  ·rw [compactUpTo_succ,if_pos hk] at hi ⊢;rw [List.length_append,List.length_singleton] at hi;by_cases e:i+1 < (compactUpTo d m).length
   ·have:=ih i e;simpa [List.getD,List.getElem?_append_left,e,show i < (compactUpTo d m).length by omega] using this
   ·have el:i+1=(compactUpTo d m).length:=by omega
    have hm:0 < m:=by
     rcases Nat.eq_zero_or_pos m with h | h
     ·subst h;simp [compactUpTo] at el
     ·exact h
    have hl:=cmp_last d m hm;rw [List.getLast?_eq_getElem?,<- el,Nat.add_sub_cancel] at hl
    have hne:d[m]! ≠ d[m - 1]! := by
     have:m=0∨d[m]! ≠ d[m - 1]! := by simpa [keeps] using hk
     rcases this with h | h
     ·omega
     ·exact h
    rw [List.getD,List.getElem?_append_left (by omega),hl,List.getD,List.getElem?_append_right (by omega),el,Nat.sub_self];simpa using fun h=>hne h.symm
  ·rw [compactUpTo_succ,if_neg hk,List.append_nil] at hi ⊢;exact ih i hi
theorem asc_of_adj (C:List En) (h:∀ i,i+1 < C.length -> ahead (C.getD i en0) (C.getD (i+1) en0)=true):Asc C:=by
 have key:∀ k i,i+k+1 < C.length -> ahead (C.getD i en0) (C.getD (i+k+1) en0)=true:=by
  intro k
  induction k with
  | zero=>intro i hi;exact h i hi
  | succ k ih=>intro i hi;exact ahead_trans (ih i (by omega)) (h (i+k+1) (by omega))
 refine List.pairwise_iff_getElem.2 fun i j hi hj hij=>?_;have:=key (j - i - 1) i (by omega);rw [show i+(j - i - 1)+1=j by omega] at this;simpa [List.getD,hi,hj] using this
def AdjN (C:List En) (k:Nat):Prop:=∀ i,i+1 < k -> sameDot (C.getD (i+1) en0) (C.getD i en0)=false
theorem settled_done {d:Array En} {C:List En} (hC:C=compactUpTo d d.size) (hp:d.toList.Pairwise (fun x y=>leE x y=true)) (h:AdjN C C.length):Settled d.toList C 0:=by
 have hle:C.Pairwise (fun x y=>leE x y=true):=by rw [hC];exact hp.sublist (cmp_sub d)
 have ha:Asc C:=asc_of_adj C fun i hi=>ahead_of (le_at hle i (i+1) (by omega) hi) (h i hi)
 have hm:∀ x,x∈C↔x∈d.toList:=fun x=>by rw [hC];exact cmp_iff d x
 exact Or.inr ⟨asc_noclash ha hm,rfl,ha,hm⟩
theorem settled_clash {d:Array En} {C:List En} (hC:C=compactUpTo d d.size) (i:Nat) (hi:i+1 < C.length) (hs:sameDot (C.getD i en0) (C.getD (i+1) en0)=true):Settled d.toList [] 10:=by
 have hm:∀ x,x∈C -> x∈d.toList:=fun x hx=>by rw [hC] at hx;exact (cmp_iff d x).1 hx
 have hne:C.getD i en0≠C.getD (i+1) en0:=by subst hC;exact cmp_adj d d.size i hi
 exact Or.inl ⟨⟨_,hm _ (getD_mem C i (by omega)),_,hm _ (getD_mem C (i+1) hi),hs,hne⟩,rfl,rfl⟩
end
section
open Go.RowKit Go.Lib
attribute [local go_sem ↓] ld28_eq st28_eq ld26_eq run_eqD
attribute [local go_sem] zero_EC cells_EV EC_size
def GivesTB (B:Nat) (w w':World) (e:Ending) (L:List En):Prop:=∃ ao n c R er,e = .returned (.tuple #[.slice ao n c,.int .i64 er])/\ESrc w' ao n c R/\Below B w w'/\(∀ ad,ao=some ad -> B <= ad.block)/\Settled L R er
theorem settled_nil:Settled [] [] 0:=Or.inr ⟨(fun ⟨_,h,_⟩=>by cases h),rfl,List.Pairwise.nil,fun _=>Iff.rfl⟩
theorem sort0 (ao:Option Addr) (cap:Nat) (w:World):Calls Tryz.prog 96 #[.slice ao 0 cap,.func (.func 75) #[] #[]] w fun e w'=>e = .returned (.tuple #[])/\w'=w:=AnyF.slices_SortFunc_none Tryz.sortEn ao cap _ w
theorem compact0 (ao:Option Addr) (cap:Nat) (w:World):Calls Tryz.prog 97 #[.slice ao 0 cap] w fun e w'=>e = .returned (.slice ao 0 cap)/\w'=w:=by
 go_enter Tryz.func97,Tryz.ntmps97;go_wp2_with fail;go_ret;exact ⟨rfl,rfl⟩
theorem rising0 (ao:Option Addr) (cap:Nat) (w:World):Calls Tryz.prog 62 #[.slice ao 0 cap] w fun e w'=>e = .returned (.tuple #[.slice ao 0 cap,.int .i64 0])/\Below w.heap.size w w':=by
 have HB:Hid (Below w.heap.size w w):=Below.refl _ _;go_enter Tryz.func62,Tryz.ntmps62;go_wp2_with fail;refine (sort0 ao cap _).mono ?_;rintro e w1 ⟨rfl,rfl⟩;go_wp2_with fail;refine (compact0 ao cap _).mono ?_;rintro e w2 ⟨rfl,rfl⟩;go_wp2_with fail;go_loopw [4,11] (fun _ i wr=>i = .int .i64 0/\wr=w2) (fun _ _ _=>0)
 case atStart=>exact ⟨rfl,rfl⟩
 case round =>
  obtain ⟨rfl,rfl⟩:=hrel;go_wp2_with fail;go_ret2;exact ⟨rfl,HB.out⟩
theorem MR.esrc {W:World} {ad:Addr} {d:Array En} (M:MR W ad d) (k c:Nat) (hk:k <= d.size) (C:List En) (hC:d.toList.take k=C) (hs:∀ e∈C,e.sku.size <= maxLen) (hm:k <= 3518437208883):ESrc W (some ad) k c C:=by
 subst hC;refine ⟨by rw [List.length_take,Array.length_toList];omega,fun h=>(by cases h),fun ad' h t ht=>?_,hs,hm⟩;obtain rfl:=Option.some.inj h
 have e:(d.toList.take k).getD t en0=d[t]! := by
  rw [List.getD,List.getElem?_take,if_pos ht,Array.getElem?_toList,Array.getElem?_eq_getElem (by omega),getElem!_pos d t (by omega)];rfl
 rw [e];exact M.at t (by omega)
theorem rising_any (ad:Addr) (cap n:Nat) (d:Array En) (w:World) (M:MR w ad d) (hn:d.size=n) (hb:n <= 3518437208883) (hcap:n <= cap) (hcm:cap <= 9223372036854775807) (hsk:∀ e∈d.toList,e.sku.size <= maxLen) :
  Calls Tryz.prog 62 #[.slice (some ad) n cap] w fun e w'=>GivesTB ad.block w w' e d.toList:=by
 have HM:=hide M;have HN:=hide hn;have HSK:=hide hsk;have HC:=hide hcap;have HCM:=hide hcm;clear M hn hsk hcap hcm;go_enter Tryz.func62,Tryz.ntmps62;go_wp2_with fail;refine (sortFunc_any ad cap n d _ HM.out HN.out hb).mono ?_;rintro e w1 ⟨rfl,d1,hp,hs,M1,b1⟩;have HP:=hide hp;have HS:=hide hs;have HM1:=hide M1;have HB1:=hide b1;clear hp hs M1 b1
 have HN1:Hid (d1.size=n):=by have:=HP.out.length_eq;rw [Array.length_toList,Array.length_toList,HN.out] at this;exact this
 go_wp2_with fail;refine (compact_any ad cap n d1 _ HM1.out HN1.out hb HC.out HCM.out).mono ?_;rintro e w2 ⟨k,d2,rfl,M2,hk,hs2,ht,b2⟩;obtain ⟨C,hCt⟩:∃ C,d2.toList.take k=C:=⟨_,rfl⟩;have HCT:=hide hCt;have HCC:Hid (C=compactUpTo d1 d1.size):=hCt.symm.trans ht;have HM2:=hide M2;have HB2:Hid (Below ad.block w w2):=HB1.out.trans b2
 have HK:Hid (k <= d2.size):=by show _ <= _;rw [hs2];exact hk
 have hkn:k <= n:=by have:=HN1.out;omega
 have HLC:Hid (C.length=k):=by show _=_;rw [<- hCt,List.length_take,Array.length_toList];have:=HK.out;omega
 have HSC:Hid (∀ e∈C,e.sku.size <= maxLen):=fun e he=>by
  rw [HCC.out] at he;exact HSK.out e (HP.out.mem_iff.1 ((cmp_iff d1 e).1 he))
 have HPM:Hid (∀ x,x∈d1.toList↔x∈d.toList):=fun x=>HP.out.mem_iff;clear hCt ht M2 b2 hs2 hk HB1 HM1;go_wp2_with fail;go_loopw [4,11] (fun _ i wr=>∃ k0:Nat,k0 <= k/\i = .int .i64 k0/\Hid (AdjN C k0/\Below w2.heap.size w2 wr)) (fun _ i _=>k - (intOf i).toNat)
 case atStart=>exact ⟨0,Nat.zero_le _,rfl,fun i hi=>by omega,Below.refl _ _⟩
 case round =>
  obtain ⟨k0,hk0,rfl,H⟩:=hrel
  rename World=>w4
  have HLT:Hid (ad.block <= w2.heap.size):=Nat.le_of_lt HM2.out.lt;have HM4:=hide (HM2.out.on H.out.2);by_cases hlt:k0 < k
  ·by_cases h0:k0=0
   ·subst h0;go_wp2_with fail;refine wp_region_quiet_below (by kernel_rfl) (by kernel_rfl) ?_
    repeat (with_reducible (refine wpQuiet_step ?_);intro K hK;go_simp;(try rw [if_neg (by unfold undef;simp)]);first | (with_reducible (refine hK _ ?_);clear hK K) | (apply Exists.intro;refine ⟨fun _=>?_,hK _ ?_⟩;(fail);clear hK K))
    with_reducible (refine wpQuiet_nil ?_)
    intro w5 hw';obtain ⟨⟨dq,osq⟩,hw''⟩:=hw'
    have b5:Below w4.heap.size w4 w5:=by rw [hw''];exact below_regrown w4 dq osq
    clear hw'' dq osq;have H5:Hid (AdjN C (0+1)/\Below w2.heap.size w2 w5):=⟨fun i hi=>by omega,H.out.2.trans (b5.mono H.out.2.size)⟩;clear b5;go_wp2_with fail;go_roundw
    case rel=>exact ⟨0+1,by omega,by go_num,H5⟩
    case measure=>simp [intOf];omega
   ·obtain ⟨j,hj⟩:∃ j,k0 - 1=j:=⟨_,rfl⟩
    have hz:IntKind.i64.wrap ((k0:Int) - 1)=(j:Int):=by rw [IntKind.wrap_i64];omega
    have hjn:j < k:=by omega
    have hd0:decide ((0:Int) < (k0:Int))=true:=decide_eq_true (by omega)
    have hpos:0 < k0:=by omega
    have Hj:Hid (k0=j+1):=by show _=_;omega
    have S4:=HM4.out.esrc k cap HK.out C HCT.out HSC.out (by omega);have A0:=hide (S4.2.2.1 ad rfl k0 hlt);have A1:=hide (S4.2.2.1 ad rfl j hjn);obtain ⟨x,Hx⟩:∃ x,Hid (C.getD k0 en0=x):=⟨_,rfl⟩;obtain ⟨y,Hy⟩:∃ y,Hid (C.getD j en0=y):=⟨_,rfl⟩;rw [Hx.out] at A0;rw [Hy.out] at A1;clear S4 hj h0;have l0:∀ d os,(ld26 (.pointer (some (ad.add (k0 * 4))))).run Tryz.prog (Sort.grow (redrawn w4 d) os) = .ok (.agg (DC x)) (Sort.grow (redrawn w4 d) os):=fun d os=>run_ld26 (A0.out.on (below_regrown w4 d os));have l1:∀ d os,(ld26 (.pointer (some (ad.add (j * 4))))).run Tryz.prog (Sort.grow (redrawn w4 d) os) = .ok (.agg (DC y)) (Sort.grow (redrawn w4 d) os):=fun d os=>run_ld26 (A1.out.on (below_regrown w4 d os));obtain ⟨q,hq⟩:∃ q,sameDot y x=q:=⟨_,rfl⟩
    cases q with
    | false =>
     have HQ:=hide hq;go_wp2_with fail;refine wp_region_quiet_below (by kernel_rfl) (by kernel_rfl) ?_
     repeat (with_reducible (refine wpQuiet_step ?_);intro K hK;go_simp;(try rw [if_neg (by unfold undef;simp)]);first | (with_reducible (refine hK _ ?_);clear hK K) | (apply Exists.intro;refine ⟨fun _=>?_,hK _ ?_⟩;(fail);clear hK K))
     with_reducible (refine wpQuiet_nil ?_)
     intro w5 hw';obtain ⟨⟨dq,osq⟩,hw''⟩:=hw'
     have b5:Below w4.heap.size w4 w5:=by rw [hw''];exact below_regrown w4 dq osq
     clear hw'' dq osq
     have H5:Hid (AdjN C (k0+1)/\Below w2.heap.size w2 w5):=⟨fun i hi=>by
      by_cases e:i=j
      ·subst e;rw [<- Hj.out,Hx.out,Hy.out,same_symm];exact HQ.out
      ·exact H.out.1 i (by have:=Hj.out;omega),H.out.2.trans (b5.mono H.out.2.size)⟩
     clear b5 l0 l1;go_wp2_with fail;go_roundw
     case rel=>exact ⟨k0+1,by omega,by go_num,H5⟩
     case measure=>simp [intOf];omega
    | true =>
     have HF:Hid (Settled d.toList [] 10):=(settled_clash HCC.out j (by rw [HLC.out];have:=Hj.out;omega) (by rw [<- Hj.out,Hx.out,Hy.out];exact hq)).perm HPM.out;go_wp2_with fail;refine wp_region_quiet_below (by kernel_rfl) (by kernel_rfl) ?_
     repeat (with_reducible (refine wpQuiet_step ?_);intro K hK;go_simp;(try rw [if_neg (by unfold undef;simp)]);first | (with_reducible (refine hK _ ?_);clear hK K) | (apply Exists.intro;refine ⟨fun _=>?_,hK _ ?_⟩;(fail);clear hK K))
     with_reducible (refine wpQuiet_nil ?_)
     intro w5 hw';obtain ⟨⟨dq,osq⟩,hw''⟩:=hw'
     have b5:Below w4.heap.size w4 w5:=by rw [hw''];exact below_regrown w4 dq osq
     clear hw'' dq osq;have HB5:Hid (Below ad.block w w5):=HB2.out.trans ((H.out.2.trans (b5.mono H.out.2.size)).mono HLT.out);clear b5 l0 l1;go_wp2_with fail;go_ret2;exact ⟨none,0,0,[],10,rfl,ESrc.none _,HB5.out,fun ad h=>(by cases h),HF.out⟩
  ·obtain rfl:k0=k:=by omega
   have HF:Hid (Settled d.toList C 0):=(settled_done HCC.out HS.out (by rw [HLC.out];exact H.out.1)).perm HPM.out;have HE:=hide (HM4.out.esrc k0 cap HK.out C HCT.out HSC.out (by omega));have HB5:Hid (Below ad.block w w4):=HB2.out.trans (H.out.2.mono HLT.out);go_wp2_with fail;go_ret2;exact ⟨some ad,k0,cap,C,0,rfl,HE.out,HB5.out,fun ad' h=>by obtain rfl:=Option.some.inj h;exact Nat.le_refl _,HF.out⟩
end
section
open Go.RowKit Go.Lib
attribute [local go_sem ↓] ld28_eq st28_eq
attribute [local go_sem] zero_EC cells_EV EC_size
def firstE:List En -> Int
 | []=>0
 | e :: r=>if ceE e=0 then firstE r else ceE e
def okTo (L:List En) (k:Nat):Prop:=∀ i,i < k -> ceE (L.getD i en0)=0
def Sorted (L R:List En) (er:Int):Prop:=(firstE L≠0/\R=[]/\er=firstE L)∨(firstE L=0/\Settled L R er)
def GivesQ (w w':World) (e:Ending) (L:List En):Prop:=∃ ao n c R er,e = .returned (.tuple #[.slice ao n c,.int .i64 er])/\ESrc w' ao n c R/\Below w.heap.size w w'/\(∀ ad,ao=some ad -> w.heap.size <= ad.block)/\Sorted L R er
theorem ESrc.cells {w:World} {ad:Addr} {n cap:Nat} {L:List En} (hS:ESrc w (some ad) n cap L) (j:Nat) (u:Value) (hj:(ecs L)[j]? = some u):w.cell? (ad.add j)=some u:=by
 have hjl:j < L.length * 4:=by have:=(List.getElem?_eq_some_iff.1 hj).1;rwa [ecs_length] at this
 have e4:=ecs_at L (j / 4) (j % 4) (by omega) (by omega);rw [show j / 4 * 4+j % 4=j by omega,hj] at e4;have A:=hS.2.2.1 ad rfl (j / 4) (by rw [<- hS.1];omega)
 have:j % 4=0∨j % 4=1∨j % 4=2∨j % 4=3:=by omega
 rcases this with h | h | h | h
 ·rw [h] at e4;rw [show j=j / 4 * 4 by omega,A.c0];exact e4.symm
 ·rw [h] at e4;have:=A.c1;rw [add_add] at this;rw [show j=j / 4 * 4+1 by omega,this];exact e4.symm
 ·rw [h] at e4;have:=A.c2;rw [add_add] at this;rw [show j=j / 4 * 4+2 by omega,this];exact e4.symm
 ·rw [h] at e4;have:=A.c3;rw [add_add] at this;rw [show j=j / 4 * 4+3 by omega,this];exact e4.symm
theorem ecs_onecell (L:List En):∀ u∈ecs L,u.oneCell'=true:=by
 intro u hu;obtain ⟨l,hl,hv⟩:=List.mem_flatten.1 hu;obtain ⟨e,_,rfl⟩:=List.mem_map.1 hl;exact EC_one e u hv
theorem clone_any (ad:Addr) (n cap:Nat) (L:List En) (w:World) (hS:ESrc w (some ad) n cap L) :
  Calls Tryz.prog 38 #[.slice (some ad) n cap] w fun e w'=>∃ ao c,e = .returned (.slice ao n c)/\OwnE w.heap.size w.heap.size w w' ao c L:=by
 obtain ⟨i0,hi,hz0,hz1,hz2⟩:=info_parts info28;have q22:∀ w,(binOp .eql 22 (.slice (some ad) n cap) (.slice none 0 0)).run Tryz.prog w = .ok (.bool false) w:=fun w=>Lib.run_eql_slice_nil w _ _ (some ad) n cap 0 0 Tryz.underlying22;have HS:=hide hS;clear hS;go_enter Tryz.func38,Tryz.ntmps38;go_wp2_with (at_builtin;refine wpList_append_own _ rfl _ _ 22 rfl w.heap.size 39 i0 (.agg #[.int .i64 0,.int .i64 0,.string ⟨#[]⟩,.int .i64 0]) 4 40 Tryz.underlying22 hi hz0 hz1 hz2 rfl (by decide) _ _ _ rfl (World.ownsRow_made w #[] 0 (Nat.le_refl _) (Nat.zero_le _) (by simp)) ad n cap (ecs L) rfl ?qc1 ?qc2 ?qc3 ?qc4 ?qc5 ?qc6 ?_)
 case qc1=>rw [ecs_length,HS.out.1]
 case qc2 =>
  intro j u hj;have:=HS.out.cells j u hj;rw [(below_new w _).cell (World.block_lt_of_cell? _ _ this)];exact this
 case qc3=>exact ecs_onecell L
 case qc4=>rw [Nat.zero_add];unfold maxLen;have:=HS.out.2.2.2.2;omega
 case qc5=>rw [Nat.zero_add];have:=HS.out.2.2.2.2;omega
 case qc6=>simp
 intro v' w1 hown hgrow hnil
 have hown':w1.ownsRow w.heap.size 39 4 v' n (ecs L):=by simpa using hown
 have hb:Below w.heap.size w w1:=((Below.refl _ w).alloc (Nat.le_refl _) _).grown hgrow (by simp) (by intro k hk;simp [Value.ownBlock] at hk;omega)
 have HF:Hid (∃ ao c,v' = .slice ao n c/\OwnE w.heap.size w.heap.size w w1 ao c L):=by
  rcases hown'.2 with ⟨h0,_⟩ | ⟨g,c,cur,rfl,r⟩
  ·exact absurd h0 hnil
  ·exact ⟨some ⟨g,0,none⟩,c,rfl,by rw [HS.out.1];exact hown',hb,hb.size,Nat.le_refl _⟩
 clear hown hown' hgrow hnil hb;go_wp2_with fail;go_ret;obtain ⟨ao,c,rfl,h⟩:=HF.out;exact ⟨ao,c,rfl,h⟩
theorem clone_nil (w:World):Calls Tryz.prog 38 #[.slice none 0 0] w fun e w'=>e = .returned (.slice none 0 0)/\w'=w:=by
 have q22:∀ w,(binOp .eql 22 (.slice none 0 0) (.slice none 0 0)).run Tryz.prog w = .ok (.bool true) w:=fun w=>Lib.run_eql_slice_nil w _ _ none 0 0 0 0 Tryz.underlying22;go_enter Tryz.func38,Tryz.ntmps38;go_wp2_with fail;go_ret;exact ⟨rfl,rfl⟩
theorem OwnE.mr {B0 B:Nat} {w w':World} {ad:Addr} {cap:Nat} {acc:List En} (O:OwnE B0 B w w' (some ad) cap acc):MR w' ad acc.toArray/\acc.length <= cap/\cap <= 9223372036854775807/\B <= ad.block:=by
 rcases O.own.2 with ⟨h0,_⟩ | ⟨g,c,cur,hv,hbg,hgg,hnc,hcm,hcsz,htake⟩
 ·cases h0
 ·simp only [Value.slice.injEq,Option.some.injEq,true_and] at hv;obtain ⟨rfl,rfl⟩:=hv;refine ⟨⟨fun j hj=>?_,(Array.getElem?_eq_some_iff.1 hgg).1,rfl⟩,hnc,by unfold maxLen at hcm;omega,hbg⟩;rw [Sort.size_flatK] at hj
  have hj':j < acc.length * 4:=by simpa using hj
  refine ⟨?_,by simp [World.frozen?,hgg]⟩;rw [Nat.zero_add,O.own.cellAt j (by omega),Sort.get_flatK _ _ _ _ hj];have e4:=ecs_at acc (j / 4) (j % 4) (by omega) (by omega);rw [show j / 4 * 4+j % 4=j by omega] at e4;rw [e4]
  have e5:acc.toArray[j / 4]! = acc.getD (j / 4) en0:=by
   rw [getElem!_pos acc.toArray (j / 4) (by simp;omega)];simp [List.getD,show j / 4 < acc.length by omega]
  rw [e5]
  have:j % 4=0∨j % 4=1∨j % 4=2∨j % 4=3:=by omega
  rcases this with h | h | h | h <;> rw [h] <;> rfl
end
section
open Go.RowKit Go.Lib
attribute [local go_sem ↓] ld28_eq st28_eq
attribute [local go_sem] zero_EC cells_EV EC_size
end
end Go.Proofs.YtaphmhbmhcahaabGreat.K
namespace Go.Proofs
open Go.Shelf
def Tryz.growEn_ren:Go.Shelf.Ren:=⟨fun | 4=>98 | n=>n,fun | 22=>22 | 25=>39 | 3=>3 | 4=>4 | 9=>9 | 20=>20 | 0=>0 | n=>n,fun | n=>n⟩
theorem Tryz.growEn:Go.Proofs.Lays8.n4 Tryz.prog Tryz.growEn_ren:={
 mixed:=by kernel_rfl
 f4:=⟨Tryz.f98.name,by decide,Tryz.func98.trans (congrArg some (by kernel_rfl))⟩
 t0:=Tryz.underlying0
 a0:=Tryz.isAgg0
 z0:=Tryz.sizeOf0
 v0:=Tryz.zeroValue0
 t3:=Tryz.underlying3
 a3:=Tryz.isAgg3
 z3:=Tryz.sizeOf3
 v3:=Tryz.zeroValue3
 t4:=Tryz.underlying4
 a4:=Tryz.isAgg4
 z4:=Tryz.sizeOf4
 v4:=Tryz.zeroValue4
 t9:=Tryz.underlying9
 a9:=Tryz.isAgg9
 z9:=Tryz.sizeOf9
 v9:=Tryz.zeroValue9
 t20:=Tryz.underlying20
 a20:=Tryz.isAgg20
 z20:=Tryz.sizeOf20
 v20:=Tryz.zeroValue20
 t22:=Tryz.underlying22
 a22:=Tryz.isAgg22
 z22:=Tryz.sizeOf22
 v22:=Tryz.zeroValue22 }
end Go.Proofs
