/- YGk -/
import Derived.Test.YtcilfelgpmfehaaGreatBj30
import Derived.Lib.QuietBelow
set_option maxRecDepth 100000
set_option maxHeartbeats 6400000
namespace Go.Proofs.YtcilfelgpmfehaaGreat.K
open Go.RowKit
attribute [local go_sem ↓] zu zt qO ql xT
attribute [local go_sem] zC zs zB
structure NcT (L M:List En) (i j:Nat):Prop where
 l:∀ x∈L.take i,∀ y∈M,aj x y=true -> x=y
 m:∀ y∈M.take j,∀ x∈L,aj x y=true -> x=y
theorem yC {x y:En}:aj x y=true↔x.rep=y.rep/\x.num=y.num:=by unfold aj;simp
theorem zgk {x y:En}:ahead x y=true↔x.rep < y.rep∨(x.rep=y.rep/\x.num < y.num):=by unfold ahead;simp
theorem zdQ {L:List En} (h:Asc L) {i j:Nat} (hij:i < j) (hj:j < L.length):ahead (L.getD i en0) (L.getD j en0)=true:=by
 have h2:=List.pairwise_iff_getElem.1 h i j (by omega) hj hij;rw [List.getD_eq_getElem?_getD,List.getElem?_eq_getElem (by omega),List.getD_eq_getElem?_getD,List.getElem?_eq_getElem hj];exact h2
theorem vy {R:List En} (h:Asc R) {x y:En} (hx:x∈R) (hy:y∈R) (hs:aj x y=true):x=y:=by
 obtain ⟨i,hi,rfl⟩:=List.getElem_of_mem hx;obtain ⟨j,hj,rfl⟩:=List.getElem_of_mem hy;rcases Nat.lt_trichotomy i j with h1 | h1 | h1
 ·rw [xD (List.pairwise_iff_getElem.1 h i j hi hj h1)] at hs
  cases hs
 ·subst h1;rfl
 ·have h2:=xD (List.pairwise_iff_getElem.1 h j i hj hi h1)
  have h3:aj R[j] R[i]=true:=by rw [yC] at hs ⊢;exact ⟨hs.1.symm,hs.2.symm⟩
  rw [h3] at h2
  cases h2
theorem zdb {L:List En} {j:Nat} {y:En} (hy:y∈L):y∈L.take j∨∃ k,j <= k/\k < L.length/\L.getD k en0=y:=by
 obtain ⟨k,hk,rfl⟩:=List.getElem_of_mem hy;by_cases h:k < j
 ·left;exact List.mem_take_iff_getElem.2 ⟨k,by omega,rfl⟩
 ·exact .inr ⟨k,by omega,hk,by rw [List.getD_eq_getElem?_getD,List.getElem?_eq_getElem hk];rfl⟩
theorem NcT.both {L M:List En} {i j:Nat} (I:NcT L M i j) (hL:Asc L) (hM:Asc M) (hi:i < L.length) (hj:j < M.length) (he:L.getD i en0=M.getD j en0):NcT L M (i+1) (j+1):=by
 have mi:L.getD i en0∈L:=by rw [List.getD_eq_getElem?_getD,List.getElem?_eq_getElem hi];exact List.getElem_mem hi
 have mj:M.getD j en0∈M:=by rw [List.getD_eq_getElem?_getD,List.getElem?_eq_getElem hj];exact List.getElem_mem hj
 refine ⟨fun x hx y hy hs=>?_,fun y hy x hx hs=>?_⟩
 ·rw [xE L i hi] at hx;rcases List.mem_append.1 hx with h | h
  ·exact I.l x h y hy hs
  ·have e:=List.mem_singleton.1 h;rw [e,he] at hs ⊢;exact vy hM mj hy hs
 ·rw [xE M j hj] at hy;rcases List.mem_append.1 hy with h | h
  ·exact I.m y h x hx hs
  ·have e:=List.mem_singleton.1 h;rw [e,<- he] at hs ⊢;exact vy hL hx mi hs
theorem NcT.left {L M:List En} {i j:Nat} (I:NcT L M i j) (hM:Asc M) (hi:i < L.length) (ha:ahead (L.getD i en0) (M.getD j en0)=true):NcT L M (i+1) j:=by
 have mi:L.getD i en0∈L:=by rw [List.getD_eq_getElem?_getD,List.getElem?_eq_getElem hi];exact List.getElem_mem hi
 refine ⟨fun x hx y hy hs=>?_,I.m⟩;rw [xE L i hi] at hx;rcases List.mem_append.1 hx with h | h
 ·exact I.l x h y hy hs
 ·have e:=List.mem_singleton.1 h;rw [e] at hs ⊢;rcases zdb (j:=j) hy with h2 | ⟨k,h2,h3,h4⟩
  ·exact I.m y h2 _ mi hs
  ·exfalso
   have a2:ahead (L.getD i en0) y=true:=by
    by_cases e2:k=j
    ·rw [<- h4,e2];exact ha
    ·rw [<- h4];exact jn ha (zdQ hM (by omega) h3)
   rw [xD a2] at hs
   cases hs
theorem NcT.right {L M:List En} {i j:Nat} (I:NcT L M i j) (hL:Asc L) (hj:j < M.length) (ha:ahead (M.getD j en0) (L.getD i en0)=true):NcT L M i (j+1):=by
 have mj:M.getD j en0∈M:=by rw [List.getD_eq_getElem?_getD,List.getElem?_eq_getElem hj];exact List.getElem_mem hj
 refine ⟨I.l,fun y hy x hx hs=>?_⟩;rw [xE M j hj] at hy;rcases List.mem_append.1 hy with h | h
 ·exact I.m y h x hx hs
 ·have e:=List.mem_singleton.1 h;rw [e] at hs ⊢;rcases zdb (j:=i) hx with h2 | ⟨k,h2,h3,h4⟩
  ·exact I.l x h2 _ mj hs
  ·exfalso
   have a2:ahead (M.getD j en0) x=true:=by
    by_cases e2:k=i
    ·rw [<- h4,e2];exact ha
    ·rw [<- h4];exact jn ha (zdQ hL (by omega) h3)
   have:=xD a2
   have h5:aj (M.getD j en0) x=true:=by rw [yC] at hs ⊢;exact ⟨hs.1.symm,hs.2.symm⟩
   rw [h5] at this
   cases this
theorem NcT.done {L M:List En} {i j:Nat} (I:NcT L M i j) (hL:Asc L) (hM:Asc M) (h:L.length <= i∨M.length <= j):¬ aV (L++M):=by
 have key:∀ x∈L,∀ y∈M,aj x y=true -> x=y:=fun x hx y hy hs=>by
  rcases h with h | h
  ·exact I.l x (by rw [List.take_of_length_le h];exact hx) y hy hs
  ·exact I.m y (by rw [List.take_of_length_le h];exact hy) x hx hs
 rintro ⟨x,hx,y,hy,hs,aT⟩
 have ia:aj y x=true:=by rw [yC] at hs ⊢;exact ⟨hs.1.symm,hs.2.symm⟩
 rcases List.mem_append.1 hx with h1 | h1 <;> rcases List.mem_append.1 hy with h2 | h2
 ·exact aT (vy hL h1 h2 hs)
 ·exact aT (key x h1 y h2 hs)
 ·exact aT (key y h2 x h1 ia).symm
 ·exact aT (vy hM h1 h2 hs)
def ClT (w w':World) (e:Ending) (L M:List En):Prop:=∃ b,e = .returned (.bool b)/\Hid (b=true↔aV (L++M))/\Below w.heap.size w w'
theorem zco (ao bo:Option Addr) (n cap m cap':Nat) (L M:List En) (w:World) (hS:aF w ao n cap L) (hR:aF w bo m cap' M) (hL:Asc L) (hM:Asc M) :
  Calls Tryz.prog 7 #[.slice ao n cap,.slice bo m cap'] w fun e w'=>ClT w w' e L M:=by
 have HS:=hide hS;have HR:=hide hR;have g1:=hS.2.2.2.2;have g2:=hR.2.2.2.2;have fE:Hid (L.length=n/\M.length=m):=⟨hS.1,hR.1⟩;have HL:=hide hL;have HM:=hide hM;clear hS hR hL hM;go_enter Tryz.func7,Tryz.ntmps7;go_wp2_with fail;go_loopw [5,6] (fun a b wr=>∃ i j:Nat,i <= n/\j <= m/\a = .int .i64 i/\b = .int .i64 j/\Hid (NcT L M i j/\Below w.heap.size w wr)) (fun a b _=>(n - (intOf a).toNat)+(m - (intOf b).toNat))
 case atStart=>exact ⟨0,0,Nat.zero_le _,Nat.zero_le _,rfl,rfl,⟨fun x hx=>(by simp at hx),fun x hx=>(by simp at hx)⟩,Below.refl _ _⟩
 case round =>
  obtain ⟨i,j,hi,hj,rfl,rfl,HI⟩:=hrel
  rename World=>wr
  have A8:=hide HI.out.2;by_cases hli:i < n
  ·have Mm:(i:Int) < (n:Int):=by omega
   by_cases eY:j < m
   ·have p5:(j:Int) < (m:Int):=by omega
    obtain ⟨ad,rfl,A0⟩:=(HS.out.below HI.out.2).at i hli;obtain ⟨bd,rfl,B0⟩:=(HR.out.below HI.out.2).at j eY;obtain ⟨x,Hx⟩:∃ x,Hid (L.getD i en0=x):=⟨_,rfl⟩;obtain ⟨y,Hy⟩:∃ y,Hid (M.getD j en0=y):=⟨_,rfl⟩;rw [Hx.out] at A0;rw [Hy.out] at B0;have HA:=hide A0;have HB:=hide B0
    have Lr:Hid (x∈L):=by show x∈L;rw [<- Hx.out,List.getD_eq_getElem?_getD,List.getElem?_eq_getElem (by rw [fE.out.1];exact hli)];exact List.getElem_mem _
    have K7:Hid (y∈M):=by show y∈M;rw [<- Hy.out,List.getD_eq_getElem?_getD,List.getElem?_eq_getElem (by rw [fE.out.2];exact eY)];exact List.getElem_mem _
    have l1:∀ d os,(io (.pointer (some (ad.add (i * 4))))).run Tryz.prog (Sort.grow (redrawn wr d) os) = .ok (.agg (DC x)) (Sort.grow (redrawn wr d) os):=fun d os=>xw (HA.out.on (below_regrown wr d os));have l2:∀ d os,(io (.pointer (some (bd.add (j * 4))))).run Tryz.prog (Sort.grow (redrawn wr d) os) = .ok (.agg (DC y)) (Sort.grow (redrawn wr d) os):=fun d os=>xw (HB.out.on (below_regrown wr d os));have Bt:=hide hli;have mo:=hide eY;clear A0 B0
    cases pU:aj x y with
    | true =>
     have hq:aj x y=true:=pU;have B9:=hide pU;clear pU;go_wp2_with fail;refine wp_region_quiet_below (by kernel_rfl) (by kernel_rfl) ?_
     repeat (with_reducible (refine wpQuiet_step ?_);intro K hK;go_simp;(try rw [if_neg (by unfold undef;simp)]);first | (with_reducible (refine hK _ ?_);clear hK K) | (apply Exists.intro;refine ⟨fun _=>?_,hK _ ?_⟩;(fail);clear hK K))
     with_reducible (refine wpQuiet_nil ?_)
     intro w3 hw';obtain ⟨⟨dq,osq⟩,hw''⟩:=hw'
     have bw3:Below wr.heap.size wr w3:=by rw [hw''];exact below_regrown wr dq osq
     have oC:=wTr A8 bw3;clear hw'' dq osq;clear l1 l2;have l3:∀ d os,(eR (.pointer (some (ad.add (i * 4))))).run Tryz.prog (Sort.grow (redrawn w3 d) os) = .ok (EV x) (Sort.grow (redrawn w3 d) os):=fun d os=>zX ((HA.out.on bw3).on (below_regrown w3 d os));have l4:∀ d os,(eR (.pointer (some (bd.add (j * 4))))).run Tryz.prog (Sort.grow (redrawn w3 d) os) = .ok (EV y) (Sort.grow (redrawn w3 d) os):=fun d os=>zX ((HB.out.on bw3).on (below_regrown w3 d os))
     cases pR:eqE x y with
     | true =>
      have HN:Hid (NcT L M (i+1) (j+1)):=HI.out.1.both HL.out HM.out (by rw [fE.out.1];exact hli) (by rw [fE.out.2];exact eY) (by rw [Hx.out,Hy.out];exact (kH x y).1 pR);go_wp2_with fail;refine wp_region_quiet_below (by kernel_rfl) (by kernel_rfl) ?_
      repeat (with_reducible (refine wpQuiet_step ?_);intro K hK;go_simp;(try rw [if_neg (by unfold undef;simp)]);first | (with_reducible (refine hK _ ?_);clear hK K) | (apply Exists.intro;refine ⟨fun _=>?_,hK _ ?_⟩;(fail);clear hK K))
      with_reducible (refine wpQuiet_nil ?_)
      intro w4 hw';obtain ⟨⟨dq,osq⟩,hw''⟩:=hw'
      have bw4:Below w3.heap.size w3 w4:=by rw [hw''];exact below_regrown w3 dq osq
      have mt:=wTr oC bw4;clear hw'' dq osq;clear l3 l4 bw3;go_wp2_with fail;go_roundw
      case rel=>exact ⟨i+1,j+1,Bt.out,mo.out,by go_num,by go_num,HN.out,mt.out⟩
      case measure=>simp [intOf];have:=Bt.out;have:=mo.out;omega
     | false =>
      have HC:Hid (aV (L++M)):=⟨x,List.mem_append_left _ Lr.out,y,List.mem_append_right _ K7.out,B9.out,fun e=>by rw [(kH x y).2 e] at pR;cases pR⟩;go_wp2_with fail;refine wp_region_quiet_below (by kernel_rfl) (by kernel_rfl) ?_
      repeat (with_reducible (refine wpQuiet_step ?_);intro K hK;go_simp;(try rw [if_neg (by unfold undef;simp)]);first | (with_reducible (refine hK _ ?_);clear hK K) | (apply Exists.intro;refine ⟨fun _=>?_,hK _ ?_⟩;(fail);clear hK K))
      with_reducible (refine wpQuiet_nil ?_)
      intro w4 hw';obtain ⟨⟨dq,osq⟩,hw''⟩:=hw'
      have bw4:Below w3.heap.size w3 w4:=by rw [hw''];exact below_regrown w3 dq osq
      have mt:=wTr oC bw4;clear hw'' dq osq;clear l3 l4 bw3;have HF:Hid (ClT w w4 (.returned (.bool true)) L M):=⟨true,rfl,⟨fun _=>HC.out,fun _=>rfl⟩,mt.out⟩;go_wp2_with fail;go_ret;exact HF.out
    | false =>
     have hq:aj x y=false:=pU;have B9:=hide pU;clear pU;go_wp2_with fail;refine wp_region_quiet_below (by kernel_rfl) (by kernel_rfl) ?_
     repeat (with_reducible (refine wpQuiet_step ?_);intro K hK;go_simp;(try rw [if_neg (by unfold undef;simp)]);first | (with_reducible (refine hK _ ?_);clear hK K) | (apply Exists.intro;refine ⟨fun _=>?_,hK _ ?_⟩;(fail);clear hK K))
     with_reducible (refine wpQuiet_nil ?_)
     intro w3 hw';obtain ⟨⟨dq,osq⟩,hw''⟩:=hw'
     have bw3:Below wr.heap.size wr w3:=by rw [hw''];exact below_regrown wr dq osq
     have oC:=wTr A8 bw3;clear hw'' dq osq;clear l1 l2;have l3:∀ d os,(io (.pointer (some (ad.add (i * 4))))).run Tryz.prog (Sort.grow (redrawn w3 d) os) = .ok (.agg (DC x)) (Sort.grow (redrawn w3 d) os):=fun d os=>xw ((HA.out.on bw3).on (below_regrown w3 d os));have l4:∀ d os,(io (.pointer (some (bd.add (j * 4))))).run Tryz.prog (Sort.grow (redrawn w3 d) os) = .ok (.agg (DC y)) (Sort.grow (redrawn w3 d) os):=fun d os=>xw ((HB.out.on bw3).on (below_regrown w3 d os))
     cases rI:ahead x y with
     | true =>
      have cD:∀ d os,Calls Tryz.prog 31 #[.agg (DC x),.agg (DC y)] (Sort.grow (redrawn w3 d) os) fun e w''=>e = .returned (.bool true)/\∃ p:Regrown,w''=Sort.grow (redrawn w3 p.d) p.os:=fun d os=>by
       have:=kK x y (Sort.grow (redrawn w3 d) os);rw [rI] at this;exact Calls.regrown_of this
      have HN:Hid (NcT L M (i+1) j):=HI.out.1.left HM.out (by rw [fE.out.1];exact hli) (by rw [Hx.out,Hy.out];exact rI);clear rI;go_wp2_with fail;refine wp_region_quiet_below (by kernel_rfl) (by kernel_rfl) ?_
      repeat (with_reducible (refine wpQuiet_step ?_);intro K hK;go_simp;(try rw [if_neg (by unfold undef;simp)]);first | (with_reducible (refine hK _ ?_);clear hK K) | (apply Exists.intro;refine ⟨fun _=>?_,hK _ ?_⟩;(go_at_call 31;exact cD _ _);clear hK K))
      with_reducible (refine wpQuiet_nil ?_)
      intro w4 hw';obtain ⟨⟨dq,osq⟩,hw''⟩:=hw'
      have bw4:Below w3.heap.size w3 w4:=by rw [hw''];exact below_regrown w3 dq osq
      have mt:=wTr oC bw4;clear hw'' dq osq;clear l3 l4 bw3 cD;go_wp2_with fail;go_roundw
      case rel=>exact ⟨i+1,j,Bt.out,by have:=mo.out;omega,by go_num,rfl,HN.out,mt.out⟩
      case measure=>simp [intOf];have:=Bt.out;omega
     | false =>
      have cD:∀ d os,Calls Tryz.prog 31 #[.agg (DC x),.agg (DC y)] (Sort.grow (redrawn w3 d) os) fun e w''=>e = .returned (.bool false)/\∃ p:Regrown,w''=Sort.grow (redrawn w3 p.d) p.os:=fun d os=>by
       have:=kK x y (Sort.grow (redrawn w3 d) os);rw [rI] at this;exact Calls.regrown_of this
      have HN:Hid (NcT L M i (j+1)):=HI.out.1.right HL.out (by rw [fE.out.2];exact eY) (by
       rw [Hx.out,Hy.out]
       have h1:¬ aj x y=true:=by rw [B9.out];decide
       have h2:¬ ahead x y=true:=by rw [rI];decide
       rw [yC] at h1;rw [zgk] at h2 ⊢
       omega)
      clear rI;go_wp2_with fail;refine wp_region_quiet_below (by kernel_rfl) (by kernel_rfl) ?_
      repeat (with_reducible (refine wpQuiet_step ?_);intro K hK;go_simp;(try rw [if_neg (by unfold undef;simp)]);first | (with_reducible (refine hK _ ?_);clear hK K) | (apply Exists.intro;refine ⟨fun _=>?_,hK _ ?_⟩;(go_at_call 31;exact cD _ _);clear hK K))
      with_reducible (refine wpQuiet_nil ?_)
      intro w4 hw';obtain ⟨⟨dq,osq⟩,hw''⟩:=hw'
      have bw4:Below w3.heap.size w3 w4:=by rw [hw''];exact below_regrown w3 dq osq
      have mt:=wTr oC bw4;clear hw'' dq osq;clear l3 l4 bw3 cD;go_wp2_with fail;go_roundw
      case rel=>exact ⟨i,j+1,by have:=Bt.out;omega,mo.out,rfl,by go_num,HN.out,mt.out⟩
      case measure=>simp [intOf];have:=mo.out;omega
   ·have p5:¬ (j:Int) < (m:Int):=by omega
    have HF:Hid (ClT w wr (.returned (.bool false)) L M):=⟨false,rfl,⟨fun h=>(by cases h),fun h=>absurd h (HI.out.1.done HL.out HM.out (.inr (by have:=fE.out.2;omega)))⟩,HI.out.2⟩;go_wp2_with fail;go_ret;exact HF.out
  ·have Mm:¬ (i:Int) < (n:Int):=by omega
   have HF:Hid (ClT w wr (.returned (.bool false)) L M):=⟨false,rfl,⟨fun h=>(by cases h),fun h=>absurd h (HI.out.1.done HL.out HM.out (.inl (by have:=fE.out.1;omega)))⟩,HI.out.2⟩;go_wp2_with fail;go_ret;exact HF.out
end Go.Proofs.YtcilfelgpmfehaaGreat.K
