/- BCn BAo Lit BKe PLp BFp RMt -/
import Derived.Test.YtehcehhfdhiomaaGreatTf07
import Derived.Test.YtehcehhfdhiomaaGreatTf26
import Derived.Test.YtehcehhfdhiomaaGreatTf22
import Derived.Shelf.SlIter.Nil
import Derived.Shelf.SortM.Plain
import Derived.Shelf.SortM.SortNone
import Derived.Test.YtehcehhfdhiomaaGreatProg
import Derived.Test.YtehcehhfdhiomaaGreatTf10
import Derived.Test.YtehcehhfdhiomaaGreatTf15
import Derived.Test.YtehcehhfdhiomaaGreatTf06
namespace Go.Proofs.YtehcehhfdhiomaaGreat
open Go.RowKit
theorem countP_more {D : List Rn} {p q : Rn → Bool} {a : Rn} (ha : a ∈ D) (hp : p a = true) (hq : q a = false) (hqp : ∀ x, q x = true → p x = true) : D.countP q + 1 ≤ D.countP p := by
 induction D with
 | nil => cases ha
 | cons x D ih =>
  have hm : D.countP q ≤ D.countP p := List.countP_mono_left (fun y _ h => hqp y h)
  rcases List.mem_cons.1 ha with rfl | h
  ·rw [List.countP_cons_of_pos hp, List.countP_cons_of_neg (by rw [hq]; decide)]
   omega
  ·have h1 := ih h
   cases hx : q x
   ·rw [List.countP_cons_of_neg (by rw [hx]; decide)]
    have h2 : D.countP p ≤ (x :: D).countP p := by rw [List.countP_cons]; omega
    omega
   ·rw [List.countP_cons_of_pos hx, List.countP_cons_of_pos (hqp x hx)]
    omega
theorem runs_count (D : List Rn) (r : Int) : ∀ (X : List Rn) (l : Int), 1 ≤ l → form l X → (∀ n, mem X n → (⟨r, n⟩ : Rn) ∈ D) → X.length ≤ D.countP (fun d => decide (d.lo = r) && decide (l ≤ d.hi))
 | [], _, _, _, _ => Nat.zero_le _
 | x :: X, l, hl, hf, hD => by
  have h1 := hf.1
  have h2 := hf.2.1
  have h3 := runs_count D r X (x.hi + 2) (by omega) hf.2.2.2 (fun n hn => hD n ((mem_cons _ _ _).2 (.inr hn)))
  have h4 : (⟨r, x.lo⟩ : Rn) ∈ D := hD x.lo ((mem_cons _ _ _).2 (.inl ⟨by omega, by have := hf.2.2.1; omega, Int.le_refl _, h2⟩))
  have h5 := countP_more (p := fun d => decide (d.lo = r) && decide (l ≤ d.hi)) (q := fun d => decide (d.lo = r) && decide (x.hi + 2 ≤ d.hi)) h4 (by simp; omega) (by simp; omega) (fun y hy => by simp at hy ⊢; omega)
  simp only [List.length_cons]
  omega
theorem cloud_count {N : Nat → List Rn} (D : List Rn) : ∀ k : Nat, (∀ r, r < k → form 1 (N r) ∧ ∀ n, mem (N r) n → (⟨(r : Int), n⟩ : Rn) ∈ D) → (cloudN N k).length ≤ D.countP (fun d => decide (0 ≤ d.lo) && decide (d.lo < (k : Int)))
 | 0, _ => Nat.zero_le _
 | k + 1, h => by
  have h1 := cloud_count D k (fun r hr => h r (by omega))
  have h2 := restOf_len (N k)
  have h3 := runs_count D k (N k) 1 (Int.le_refl _) (h k (by omega)).1 (h k (by omega)).2
  have h4 : D.countP (fun d => decide (0 ≤ d.lo) && decide (d.lo < (k : Int))) + D.countP (fun d => decide (d.lo = (k : Int)) && decide (1 ≤ d.hi)) ≤ D.countP (fun d => decide (0 ≤ d.lo) && decide (d.lo < ((k + 1 : Nat) : Int))) := by
   clear h h1 h2 h3
   induction D with
   | nil => simp
   | cons x D ih =>
    rw [List.countP_cons, List.countP_cons, List.countP_cons]
    have h5 : (if (decide (0 ≤ x.lo) && decide (x.lo < (k : Int))) = true then 1 else 0) + (if (decide (x.lo = (k : Int)) && decide (1 ≤ x.hi)) = true then 1 else 0) ≤ (if (decide (0 ≤ x.lo) && decide (x.lo < ((k + 1 : Nat) : Int))) = true then 1 else 0) := by
     simp only [Bool.and_eq_true, decide_eq_true_eq]
     split <;> split <;> split <;> omega
    omega
  rw [cloudN, List.length_append, tag_length]
  omega
theorem canon_count {G : Nat → List Rn} {P : Pst} (h : CanonOf G P) (D : List Rn) (hD : ∀ r : Nat, r < 16 → ∀ n, mem (G r) n → (⟨(r : Int), n⟩ : Rn) ∈ D) : P.cloud.length ≤ D.length := by
 obtain ⟨N, hN, rfl⟩ := h
 exact Nat.le_trans (cloud_count D 16 (fun r hr => ⟨(hN r hr).1, fun n hn => hD r hr n (((hN r hr).2 n).1 hn)⟩)) List.countP_le_length
end Go.Proofs.YtehcehhfdhiomaaGreat
namespace Go.Proofs.YtehcehhfdhiomaaGreat
open Go.RowKit
def freeB (R : List Rc) (e : K.En) : Bool := !R.any (fun r => covB r e)
def ApA (w w' : World) (x : Ending) (L : List K.En) (R : List Rc) (n : Nat) : Prop := (K.chk L = 0 ∧ OkR R n ∧ K.GivesEE w w' x (L.filter (freeB R)) 0) ∨ (¬ (K.chk L = 0 ∧ OkR R n) ∧ K.GivesEE w w' x [] 1)
end Go.Proofs.YtehcehhfdhiomaaGreat
namespace Go.Proofs
open Go.Shelf
def Tryz.keysM_ren : Go.Shelf.Ren := ⟨fun | 7 => 89 | 10 => 125 | n => n, fun | 23 => 119 | 26 => 9 | 3 => 60 | 28 => 123 | 0 => 0 | 27 => 122 | 33 => 109 | 4 => 4 | n => n, fun | n => n⟩
theorem Tryz.keysM : Go.Proofs.SlLaysZ.n7 Tryz.prog Tryz.keysM_ren := {
 mixed := by kernel_rfl
 f7 := ⟨Tryz.f89.name, by decide, Tryz.func89.trans (congrArg some (by kernel_rfl))⟩
 f10 := ⟨Tryz.f125.name, by decide, Tryz.func125.trans (congrArg some (by kernel_rfl))⟩
 t0 := Tryz.underlying0
 a0 := Tryz.isAgg0
 z0 := Tryz.sizeOf0
 v0 := Tryz.zeroValue0
 t4 := Tryz.underlying4
 a4 := Tryz.isAgg4
 z4 := Tryz.sizeOf4
 v4 := Tryz.zeroValue4
 t23 := Tryz.underlying119
 a23 := Tryz.isAgg119
 z23 := Tryz.sizeOf119
 v23 := Tryz.zeroValue119
 t26 := Tryz.underlying9
 a26 := Tryz.isAgg9
 z26 := Tryz.sizeOf9
 v26 := Tryz.zeroValue9
 t27 := Tryz.underlying122
 a27 := Tryz.isAgg122
 z27 := Tryz.sizeOf122
 v27 := Tryz.zeroValue122
 t28 := Tryz.underlying123
 a28 := Tryz.isAgg123
 z28 := Tryz.sizeOf123
 v28 := Tryz.zeroValue123
 t33 := Tryz.underlying109
 a33 := Tryz.isAgg109
 z33 := Tryz.sizeOf109
 v33 := Tryz.zeroValue109 }
def Tryz.sortedM_ren : Go.Shelf.Ren := ⟨fun | 6 => 88 | 8 => 123 | 9 => 124 | 11 => 139 | 13 => 129 | 12 => 140 | 23 => 154 | 24 => 155 | 14 => 171 | 15 => 172 | 16 => 173 | 17 => 174 | 18 => 175 | 19 => 176 | 20 => 177 | 21 => 178 | 22 => 179 | 25 => 189 | 26 => 182 | 27 => 183 | 28 => 190 | 29 => 191 | 30 => 192 | 31 => 203 | n => n, fun | 26 => 9 | 28 => 123 | 24 => 120 | 0 => 0 | 3 => 3 | 37 => 159 | 48 => 180 | 50 => 182 | 4 => 4 | 40 => 174 | 39 => 173 | 45 => 152 | 5 => 5 | 9 => 9 | 51 => 197 | 55 => 201 | 57 => 212 | 58 => 140 | 33 => 109 | n => n, fun | n => n⟩
theorem Tryz.sortedM : Go.Proofs.SlLaysZ.n6 Tryz.prog Tryz.sortedM_ren := {
 mixed := by kernel_rfl
 f6 := ⟨Tryz.f88.name, by decide, Tryz.func88.trans (congrArg some (by kernel_rfl))⟩
 f8 := ⟨Tryz.f123.name, by decide, Tryz.func123.trans (congrArg some (by kernel_rfl))⟩
 f11 := ⟨Tryz.f139.name, by decide, Tryz.func139.trans (congrArg some (by kernel_rfl))⟩
 t0 := Tryz.underlying0
 a0 := Tryz.isAgg0
 z0 := Tryz.sizeOf0
 v0 := Tryz.zeroValue0
 t24 := Tryz.underlying120
 a24 := Tryz.isAgg120
 z24 := Tryz.sizeOf120
 v24 := Tryz.zeroValue120
 t26 := Tryz.underlying9
 a26 := Tryz.isAgg9
 z26 := Tryz.sizeOf9
 v26 := Tryz.zeroValue9
 t28 := Tryz.underlying123
 a28 := Tryz.isAgg123
 z28 := Tryz.sizeOf123
 v28 := Tryz.zeroValue123
 i26 := by kernel_rfl }
def Tryz.sortM_ren : Go.Shelf.Ren := ⟨fun | 6 => 124 | 8 => 129 | 9 => 140 | 19 => 154 | 20 => 155 | 21 => 171 | 22 => 172 | 23 => 173 | 24 => 174 | 25 => 175 | 26 => 176 | 27 => 177 | 28 => 178 | 29 => 179 | 36 => 189 | 31 => 182 | 32 => 183 | 37 => 190 | 38 => 191 | 39 => 192 | 41 => 203 | n => n, fun | 27 => 120 | 29 => 9 | 3 => 3 | 32 => 159 | 26 => 120 | 0 => 0 | 44 => 180 | 46 => 182 | 4 => 4 | 36 => 174 | 35 => 173 | 41 => 152 | 5 => 5 | 9 => 9 | 53 => 197 | 57 => 201 | 63 => 212 | 64 => 140 | n => n, fun | n => n⟩
theorem Tryz.sortM : Go.Proofs.SlLaysM.n6 Tryz.prog Tryz.sortM_ren := {
 mixed := by kernel_rfl
 f6 := ⟨Tryz.f124.name, by decide, Tryz.func124.trans (congrArg some (by kernel_rfl))⟩
 f8 := Tryz.func129.trans (congrArg some (by kernel_rfl))
 f9 := ⟨Tryz.f140.name, by decide, Tryz.func140.trans (congrArg some (by kernel_rfl))⟩
 f19 := Tryz.func154.trans (congrArg some (by kernel_rfl))
 f20 := Tryz.func155.trans (congrArg some (by kernel_rfl))
 f21 := ⟨Tryz.f171.name, by decide, Tryz.func171.trans (congrArg some (by kernel_rfl))⟩
 f22 := ⟨Tryz.f172.name, by decide, Tryz.func172.trans (congrArg some (by kernel_rfl))⟩
 f23 := ⟨Tryz.f173.name, by decide, Tryz.func173.trans (congrArg some (by kernel_rfl))⟩
 f24 := ⟨Tryz.f174.name, by decide, Tryz.func174.trans (congrArg some (by kernel_rfl))⟩
 f25 := ⟨Tryz.f175.name, by decide, Tryz.func175.trans (congrArg some (by kernel_rfl))⟩
 f26 := ⟨Tryz.f176.name, by decide, Tryz.func176.trans (congrArg some (by kernel_rfl))⟩
 f27 := ⟨Tryz.f177.name, by decide, Tryz.func177.trans (congrArg some (by kernel_rfl))⟩
 f28 := ⟨Tryz.f178.name, by decide, Tryz.func178.trans (congrArg some (by kernel_rfl))⟩
 f29 := ⟨Tryz.f179.name, by decide, Tryz.func179.trans (congrArg some (by kernel_rfl))⟩
 f31 := Tryz.func182.trans (congrArg some (by kernel_rfl))
 f32 := Tryz.func183.trans (congrArg some (by kernel_rfl))
 f36 := ⟨Tryz.f189.name, by decide, Tryz.func189.trans (congrArg some (by kernel_rfl))⟩
 f37 := ⟨Tryz.f190.name, by decide, Tryz.func190.trans (congrArg some (by kernel_rfl))⟩
 f38 := ⟨Tryz.f191.name, by decide, Tryz.func191.trans (congrArg some (by kernel_rfl))⟩
 f39 := ⟨Tryz.f192.name, by decide, Tryz.func192.trans (congrArg some (by kernel_rfl))⟩
 f41 := ⟨Tryz.f203.name, by decide, Tryz.func203.trans (congrArg some (by kernel_rfl))⟩
 t0 := Tryz.underlying0
 a0 := Tryz.isAgg0
 z0 := Tryz.sizeOf0
 v0 := Tryz.zeroValue0
 t3 := Tryz.underlying3
 a3 := Tryz.isAgg3
 z3 := Tryz.sizeOf3
 v3 := Tryz.zeroValue3
 t4 := Tryz.underlying4
 a4 := Tryz.isAgg4
 z4 := Tryz.sizeOf4
 v4 := Tryz.zeroValue4
 t5 := Tryz.underlying5
 a5 := Tryz.isAgg5
 z5 := Tryz.sizeOf5
 v5 := Tryz.zeroValue5
 t9 := Tryz.underlying9
 a9 := Tryz.isAgg9
 z9 := Tryz.sizeOf9
 v9 := Tryz.zeroValue9
 t26 := Tryz.underlying120
 a26 := Tryz.isAgg120
 z26 := Tryz.sizeOf120
 v26 := Tryz.zeroValue120
 t27 := Tryz.underlying120
 a27 := Tryz.isAgg120
 z27 := Tryz.sizeOf120
 v27 := Tryz.zeroValue120
 t29 := Tryz.underlying9
 a29 := Tryz.isAgg9
 z29 := Tryz.sizeOf9
 v29 := Tryz.zeroValue9
 t32 := Tryz.underlying159
 a32 := Tryz.isAgg159
 z32 := Tryz.sizeOf159
 v32 := Tryz.zeroValue159
 t35 := Tryz.underlying173
 a35 := Tryz.isAgg173
 z35 := Tryz.sizeOf173
 v35 := Tryz.zeroValue173
 t36 := Tryz.underlying174
 a36 := Tryz.isAgg174
 z36 := Tryz.sizeOf174
 v36 := Tryz.zeroValue174
 t41 := Tryz.underlying152
 a41 := Tryz.isAgg152
 z41 := Tryz.sizeOf152
 v41 := Tryz.zeroValue152
 t44 := Tryz.underlying180
 a44 := Tryz.isAgg180
 z44 := Tryz.sizeOf180
 v44 := Tryz.zeroValue180
 t46 := Tryz.underlying182
 a46 := Tryz.isAgg182
 z46 := Tryz.sizeOf182
 v46 := Tryz.zeroValue182
 t53 := Tryz.underlying197
 a53 := Tryz.isAgg197
 z53 := Tryz.sizeOf197
 v53 := Tryz.zeroValue197
 t57 := Tryz.underlying201
 a57 := Tryz.isAgg201
 z57 := Tryz.sizeOf201
 v57 := Tryz.zeroValue201
 t63 := Tryz.underlying212
 a63 := Tryz.isAgg212
 z63 := Tryz.sizeOf212
 v63 := Tryz.zeroValue212
 t64 := Tryz.underlying140
 a64 := Tryz.isAgg140
 z64 := Tryz.sizeOf140
 v64 := Tryz.zeroValue140 }
end Go.Proofs
namespace Go.Proofs.YtehcehhfdhiomaaGreat
open Go.RowKit Go.Maps Go.Sort Go.Shelf

theorem sorts_in (m : Nat) : AnyZ.SortsIn Tryz.prog Tryz.sortedM_ren Fence.wide m :=
 ⟨fun blk off cap ss W hH hblk hsz => callsIn_wide.2 (AnyM.slices_Sort_string Tryz.sortM blk off cap ss W hH hblk hsz),
 fun p cap W => callsIn_wide.2 (AnyM.slices_Sort_string_none Tryz.sortM p cap W)⟩
theorem keys_any (mb : Option Nat) (W : World) : Calls Tryz.prog 89 #[.map mb] W fun e w' => e = .returned (.func (.func 125) #[] #[.pointer (some ⟨W.heap.size, 0, none⟩)]) ∧ w' = W.alloc (.cells #[.map mb] 119) :=
 (callsIn_wide (n := 5)).1 (AnyZ.keys_in Tryz.keysM Fence.wide 5 trivial rfl mb W)
def GivesSs (w w' : World) (e : Ending) (T : List (List UInt8)) : Prop := ∃ v, e = .returned v ∧ w'.ownsRow w.heap.size 9 1 v T.length (T.map encStr) ∧ Below w.heap.size w w'
set_option maxHeartbeats 1000000 in
theorem sortedKeys_any {H : Type} (b nn : Nat) (D0 : DataW H) (R : Value → Option (DataW H × List MemPlace)) (w : World) (hown : w.ownsMap Tryz.prog 9 R b nn D0) (hmax : Maps.size D0 ≤ maxLen) (hbytes : Maps.size D0 * 16 ≤ 140737488355328) :
  Calls Tryz.prog 88 #[.func (.func 125) #[] #[.pointer (some ⟨w.heap.size, 0, none⟩)]] (w.alloc (.cells #[.map (some b)] 119)) fun e w' => ∃ ss : List (List UInt8), ss.Perm (strKeys D0) ∧ GivesSs (w.alloc (.cells #[.map (some b)] 119)) w' e (ss.mergeSort leB) := by
 have hbl := hown.lt
 have hseq : SeqGives Fence.wide 2 Tryz.prog 125 #[.pointer (some ⟨w.heap.size, 0, none⟩)] encStr (fun ss => ss.Perm (strKeys D0)) (Maps.size D0) (w.alloc (.cells #[.map (some b)] 119)) :=
  AnyZ.keys_gives (ρ := Tryz.keysM_ren) { Tryz.keysM with } Fence.wide _ trivial rfl (by omega) w.heap.size b nn D0 _ (by simp) (by simp) (by
   obtain ⟨es, clock, hb, Ft, hs, hD⟩ := hown
   exact ⟨es, clock, (Below.heap_alloc _ _ b hbl).trans hb, Ft, hs, hD⟩)
 have h := AnyZ.sorted_in Tryz.sortedM Fence.wide 5 trivial trivial trivial trivial rfl (by omega) (sorts_in _) (enters_of Tryz.func124 (by kernel_rfl) rfl) 125 #[.pointer (some ⟨w.heap.size, 0, none⟩)] trivial (enters_of Tryz.func125 (by kernel_rfl) rfl) _ _ hmax hbytes _ hseq
 refine ((callsIn_wide (n := 5)).1 h).mono ?_
 rintro e w' ⟨v, ss, rfl, hS, hrow, _, hb⟩
 refine ⟨ss, hS, v, rfl, ?_, hb⟩
 have e1 : (ss.mergeSort leB).length = ss.length := (List.mergeSort_perm ss leB).length_eq
 rw [e1]
 exact hrow
end Go.Proofs.YtehcehhfdhiomaaGreat
namespace Go.Proofs.YtehcehhfdhiomaaGreat
open Go.RowKit

def mP (P : Pst) : Nat → Int → Prop := fun r n => mem (runsAt P r) n
def mOr (M M' : Nat → Int → Prop) : Nat → Int → Prop := fun r n => M r n ∨ M' r n
def mAnd (M M' : Nat → Int → Prop) : Nat → Int → Prop := fun r n => M r n ∧ M' r n
def mNot (M M' : Nat → Int → Prop) : Nat → Int → Prop := fun r n => M r n ∧ ¬ M' r n
def IsP (M : Nat → Int → Prop) (P : Pst) : Prop := ∃ C, CanonOf C P ∧ ∀ r, r < 16 → ∀ n, mem (C r) n ↔ M r n
def Eqv (M M' : Nat → Int → Prop) : Prop := ∀ r, r < 16 → ∀ n, M r n ↔ M' r n
theorem isP_minus {a b : Pst} {P : Pst} (h : ∃ C : Nat → List Rn, (∀ r, r < 16 → MinusOf (runsAt a r) (runsAt b r) (C r)) ∧ CanonOf C P) : IsP (mNot (mP a) (mP b)) P := by
 obtain ⟨C, hM, hC⟩ := h
 exact ⟨C, hC, fun r hr n => (hM r hr).2 n⟩
def SzP (M : Nat → Int → Prop) (z : Int) : Prop := ∃ N, (∀ r, r < 16 → form 1 (N r) ∧ ∀ n, Go.Proofs.YtehcehhfdhiomaaGreat.mem (N r) n ↔ M r n) ∧ z = sumZ N 16
theorem SzP.none : SzP (fun _ _ => False) 0 := ⟨fun _ => [], fun _ _ => ⟨trivial, fun n => ⟨fun h => mem_nil n h, fun h => h.elim⟩⟩, by decide⟩
end Go.Proofs.YtehcehhfdhiomaaGreat
namespace Go.Proofs.YtehcehhfdhiomaaGreat
open Go.RowKit Go.Maps Go.Sort
theorem OwnRc.setOther {B : Nat} {w W : World} {h : Hs} {L : List Rc} (O : OwnRc B w W h L) (g : Nat) (cs : Array Value) (hg : w.heap.size ≤ g) (hne : (HsV h).ownBlock ≠ some g) (hf : ∀ r ∈ L, PFar r.p g) : OwnRc B w (W.setRow g cs) h L := by
 have hs : (W.setRow g cs).heap.size = W.heap.size := by simp [World.setRow]
 have hk : ∀ q, q < W.heap.size → some q ≠ some g → (W.setRow g cs).heap[q]? = W.heap[q]? := fun q _ hq => setRow_other _ _ _ _ (fun e => hq (by rw [e]))
 have hG : W.grownBy (W.setRow g cs) (some g) := ⟨rfl, rfl, rfl, by omega, hk⟩
 exact ⟨O.own.kept hG (.inr hne), fun r hr => ⟨⟨psrc_keep (O.ok r hr).1.1 (fun k e => by obtain rfl := Option.some.inj e; exact hf r hr) hk, (O.ok r hr).1.2⟩, (O.ok r hr).2⟩, below_setRow O.below hg, O.hB.1, by have := O.hB.2; omega⟩
def ofS (R : List Rc) (s : ByteArray) : List Pv := (R.filter (fun r => decide (r.s = s))).map (fun r => r.p)
theorem ofS_len (R : List Rc) (s : ByteArray) : (ofS R s).length ≤ R.length := by unfold ofS; rw [List.length_map]; exact List.length_filter_le _ _
theorem ofS_snoc (R : List Rc) (r : Rc) (s : ByteArray) : pvs (ofS (R ++ [r]) s) = if s = r.s then pvs (ofS R s) ++ (PC r.p).toList else pvs (ofS R s) := by
 unfold ofS
 rw [List.filter_append, List.map_append, pvs_append]
 by_cases h : s = r.s
 ·subst h; simp [pvs_one]
 ·have h' : ¬ r.s = s := fun e => h e.symm
  simp [h, h', pvs]
theorem ofS_mem {R : List Rc} {s : ByteArray} {p : Pv} : p ∈ ofS R s ↔ ∃ r ∈ R, r.s = s ∧ r.p = p := by
 unfold ofS
 rw [List.mem_map]
 constructor
 ·rintro ⟨r, hr, rfl⟩
  have := List.mem_filter.1 hr
  exact ⟨r, this.1, by simpa using this.2, rfl⟩
 ·rintro ⟨r, hr, hs, rfl⟩
  exact ⟨r, List.mem_filter.2 ⟨hr, by simpa using hs⟩, rfl⟩
theorem runsOf_mem (X : List Pv) (r : Nat) (n : Int) : mem (runsOf X r) n ↔ ∃ p ∈ X, mem (runsAt p.P r) n := by
 induction X with
 | nil => simp [runsOf, mem]
 | cons p X ih =>
  have e : runsOf (p :: X) r = runsAt p.P r ++ runsOf X r := rfl
  rw [e, mem_append, ih]
  simp
def nilF : ByteArray := ⟨#[]⟩
def FoldM (R : List Rc) (s : ByteArray) (r : Nat) (n : Int) : Prop := (∃ x ∈ R, x.s = s ∧ mem (runsAt x.p.P r) n) ∧ (s ≠ nilF → ¬ ∃ x ∈ R, x.s = nilF ∧ mem (runsAt x.p.P r) n)
theorem join_all {R : List Rc} {s : ByteArray} {P : Pst} (h : CanonOf (runsOf (ofS R s)) P) (r : Nat) (hr : r < 16) (n : Int) : mem (runsAt P r) n ↔ ∃ x ∈ R, x.s = s ∧ mem (runsAt x.p.P r) n := by
 rw [canon_mem h r hr n, runsOf_mem]
 constructor
 ·rintro ⟨p, hp, hm⟩
  obtain ⟨x, hx, hs, rfl⟩ := ofS_mem.1 hp
  exact ⟨x, hx, hs, hm⟩
 ·rintro ⟨x, hx, hs, hm⟩
  exact ⟨x.p, ofS_mem.2 ⟨x, hx, hs, rfl⟩, hm⟩
theorem fold_nil {R : List Rc} {P : Pst} (h : CanonOf (runsOf (ofS R nilF)) P) : IsP (FoldM R nilF) P :=
 ⟨_, h, fun r hr n => by
  rw [← canon_mem h r hr n, join_all h r hr n]
  exact ⟨fun h => ⟨h, fun e => absurd rfl e⟩, fun h => h.1⟩⟩
theorem fold_sku {R : List Rc} {s : ByteArray} {P A M : Pst} (hs : s ≠ nilF) (h : CanonOf (runsOf (ofS R s)) P) (ha : CanonOf (runsOf (ofS R nilF)) A) (hm : ∃ C : Nat → List Rn, (∀ r, r < 16 → MinusOf (runsAt P r) (runsAt A r) (C r)) ∧ CanonOf C M) : IsP (FoldM R s) M := by
 obtain ⟨C, hC, hI⟩ := isP_minus hm
 refine ⟨C, hC, fun r hr n => (hI r hr n).trans ?_⟩
 show mem (runsAt P r) n ∧ ¬ mem (runsAt A r) n ↔ _
 rw [join_all h r hr n, join_all ha r hr n]
 exact ⟨fun h => ⟨h.1, fun _ => h.2⟩, fun h => ⟨h.1, h.2 hs⟩⟩
def FoldOf (R F : List Rc) : Prop := F.Pairwise (fun a b => cmpS a.s b.s < 0) ∧ (∀ x ∈ F, (∃ r ∈ R, r.s = x.s) ∧ IsP (FoldM R x.s) x.p.P ∧ ¬ EmptyP x.p.P) ∧ ∀ s, (∃ r ∈ R, r.s = s) → (∀ x ∈ F, x.s ≠ s) → ∀ r, r < 16 → ∀ n, ¬ FoldM R s r n
def FPre (R : List Rc) (T : List (List UInt8)) (F : List Rc) : Prop := (F.map (fun x => x.s.data.toList)).Sublist T ∧ (∀ x ∈ F, IsP (FoldM R x.s) x.p.P ∧ ¬ EmptyP x.p.P) ∧ ∀ t ∈ T, (∀ x ∈ F, x.s ≠ ⟨t.toArray⟩) → ∀ r, r < 16 → ∀ n, ¬ FoldM R ⟨t.toArray⟩ r n
theorem FPre.start (R : List Rc) : FPre R [] [] := ⟨List.Sublist.refl _, fun x h => (by cases h), fun t h => (by cases h)⟩
theorem FPre.skip {R F : List Rc} {T : List (List UInt8)} (h : FPre R T F) (t : List UInt8) (he : ∀ r, r < 16 → ∀ n, ¬ FoldM R ⟨t.toArray⟩ r n) : FPre R (T ++ [t]) F := by
 refine ⟨h.1.trans (List.sublist_append_left _ _), h.2.1, fun u hu hn => ?_⟩
 rcases List.mem_append.1 hu with hu | hu
 ·exact h.2.2 u hu hn
 ·obtain rfl : u = t := by simpa using hu
  exact he
theorem FPre.add {R F : List Rc} {T : List (List UInt8)} (h : FPre R T F) (t : List UInt8) (x : Rc) (hx : x.s = ⟨t.toArray⟩) (hI : IsP (FoldM R x.s) x.p.P) (hE : ¬ EmptyP x.p.P) : FPre R (T ++ [t]) (F ++ [x]) := by
 refine ⟨?_, fun y hy => ?_, fun u hu hn => ?_⟩
 ·rw [List.map_append]
  refine h.1.append ?_
  simp [hx]
 ·rcases List.mem_append.1 hy with hy | hy
  ·exact h.2.1 y hy
  ·obtain rfl : y = x := by simpa using hy
   exact ⟨hI, hE⟩
 ·rcases List.mem_append.1 hu with hu | hu
  ·exact h.2.2 u hu (fun y hy => hn y (List.mem_append_left _ hy))
  ·obtain rfl : u = t := by simpa using hu
   exact absurd hx (hn x (by simp))
theorem FPre.done {R F : List Rc} {T : List (List UInt8)} (h : FPre R T F) (hT : T.Pairwise (fun a b => Lib.compareBytes a b < 0)) (hK : ∀ t, t ∈ T ↔ ∃ r ∈ R, r.s = ⟨t.toArray⟩) : FoldOf R F := by
 refine ⟨List.pairwise_map.1 (hT.sublist h.1), fun x hx => ⟨?_, h.2.1 x hx⟩, fun s hs hn => ?_⟩
 ·have := (hK x.s.data.toList).1 (h.1.subset (List.mem_map.2 ⟨x, hx, rfl⟩))
  simpa using this
 ·have hm : s.data.toList ∈ T := (hK _).2 (by simpa using hs)
  have := h.2.2 _ hm (by simpa using hn)
  simpa using this
end Go.Proofs.YtehcehhfdhiomaaGreat
namespace Go.Proofs.YtehcehhfdhiomaaGreat
open Go.RowKit
attribute [local go_sem ↓] ldR_eq stR_eq
attribute [local go_sem] zero_RC cells_RV RC_size fold_RC
theorem build_RC (x y : Int) : ((RC rn0).setIfInBounds 0 (.int .i64 x)).setIfInBounds 1 (.int .i64 y) = RC ⟨x, y⟩ := rfl
attribute [local go_sem] build_RC
def lenOfS : Value → Nat
 | .slice _ n _ => n
 | _ => 0
set_option maxRecDepth 100000 in
set_option maxHeartbeats 8000000 in
theorem meet_new (ao bo : Option Addr) (n cap m cap' : Nat) (A B : List Rn) (w : World) (hS : RSrc w ao n cap A) (hR : RSrc w bo m cap' B) :
  Calls Tryz.prog 92 #[.slice ao n cap, .slice bo m cap'] w fun e w' => GivesRN w w' e (MeetOf A B) := by
 have HS := hide hS
 have HR := hide hR
 clear hS hR
 go_enter Tryz.func92, Tryz.ntmps92
 go_wp2_with fail
 refine (norm_any ao n cap A _ HS.out).mono ?_
 rintro e w1 ⟨a1, n1, c1, X, rfl, S1, b1, p1⟩
 have HS1 := hide S1
 have HP1 := hide p1
 have HB1 := hide b1
 clear S1 b1 p1
 go_wp2_with fail
 refine (norm_any bo m cap' B _ (HR.out.below HB1.out)).mono ?_
 rintro e w2 ⟨a2, n2, c2, Y, rfl, S2, b2, p2⟩
 have HS2 := hide S2
 have HP2 := hide p2
 have HS1' := hide (HS1.out.below b2)
 have HB2 := hide (HB1.out.trans (b2.mono HB1.out.size))
 clear S2 b2 p2 HS1 HB1
 go_wp2_with fail
 go_loopw [5, 6, 7, 8, 9] (fun u v o _ _ wr => ∃ (ax : Option Addr) (nx cx : Nat) (x' : List Rn) (ay : Option Addr) (ny cy : Nat) (y' : List Rn) (ap : Option Addr) (c : Nat) (acc : List Rn), u = .slice ax nx cx ∧ v = .slice ay ny cy ∧ o = .slice ap acc.length c ∧ RSrc w2 ax nx cx x' ∧ RSrc w2 ay ny cy y' ∧ OwnR w2.heap.size w2.heap.size w2 wr ap c acc ∧ MtInv X Y x' y' acc) (fun u v _ _ _ _ => lenOfS u + lenOfS v)
 case atStart => exact ⟨a1, n1, c1, X, a2, n2, c2, Y, none, 0, [], rfl, rfl, rfl, HS1'.out, HS2.out, OwnR.nil (Below.refl _ _) (Nat.le_refl _) (Nat.le_refl _), MtInv.start HP1.out.1 HP2.out.1⟩
 case round =>
  obtain ⟨ax, nx, cx, x', ay, ny, cy, y', ap, c, acc, rfl, rfl, rfl, SX, SY, O, I⟩ := hrel
  rename World => w4
  have H : Hid (OwnR w2.heap.size w2.heap.size w2 w4 ap c acc ∧ MtInv X Y x' y' acc) := ⟨O, I⟩
  have HSX := hide SX
  have HSY := hide SY
  have hal := form_small (Int.le_refl _) I.frm
  have hcx := SX.cap
  have hcy := SY.cap
  have hrx := SX.room
  have hry := SY.room
  unfold maxLen at hrx hry
  clear SX SY O I
  by_cases h1 : 0 < nx
  ·by_cases h2 : 0 < ny
   ·obtain ⟨adx, rfl, _⟩ := HSX.out.at 0 h1
    obtain ⟨ady, rfl, _⟩ := HSY.out.at 0 h2
    obtain ⟨bx, ox, rfl⟩ := HSX.out.spot h1
    obtain ⟨by_, oy, rfl⟩ := HSY.out.spot h2
    obtain ⟨a, xs, rfl⟩ : ∃ a xs, x' = a :: xs := by
     have := HSX.out.len
     cases x' with
     | nil => simp at this; omega
     | cons a xs => exact ⟨a, xs, rfl⟩
    obtain ⟨b, ys, rfl⟩ : ∃ b ys, y' = b :: ys := by
     have := HSY.out.len
     cases y' with
     | nil => simp at this; omega
     | cons b ys => exact ⟨b, ys, rfl⟩
    obtain ⟨q0, q1⟩ := HSX.out.nums 0 h1
    obtain ⟨q2, q3⟩ := HSY.out.nums 0 h2
    simp [List.getD] at q0 q1 q2 q3
    have HQ1 := hide q1
    have HQ3 := hide q3
    have k0 := cell_regrown ((H.out.1.below.cell (World.block_lt_of_cell? _ _ q0)).trans q0)
    have k1 := cell_regrown ((H.out.1.below.cell (World.block_lt_of_cell? _ _ q1)).trans q1)
    have k2 := cell_regrown ((H.out.1.below.cell (World.block_lt_of_cell? _ _ q2)).trans q2)
    have k3 := cell_regrown ((H.out.1.below.cell (World.block_lt_of_cell? _ _ q3)).trans q3)
    clear q0 q1 q2 q3
    by_cases hle : max a.lo b.lo ≤ min a.hi b.hi
    ·by_cases hlt : a.hi < b.hi
     ·go_wp2_with fail
      refine wp_region_quiet_below (by kernel_rfl) (by kernel_rfl) ?_
      repeat (with_reducible (refine wpQuiet_step ?_); intro K hK; go_simp; (try rw [if_neg (by unfold undef; simp)]); first | (with_reducible (refine hK _ ?_); clear hK K) | (apply Exists.intro; refine ⟨fun _ => ?_, hK _ ?_⟩; (fail); clear hK K))
      with_reducible (refine wpQuiet_nil ?_)
      intro w5 hw'
      obtain ⟨⟨dq, osq⟩, hw''⟩ := hw'
      have b5 : Below w4.heap.size w4 w5 := by rw [hw'']; exact below_regrown w4 dq osq
      clear hw'' dq osq
      have HO5 := hide (H.out.1.later b5)
      clear b5 k0 k1 k2 k3
      go_wp2_with (at_builtin; refine HO5.out.append ⟨max a.lo b.lo, min a.hi b.hi⟩ _ rfl (by omega) rfl (.tmp 43) (.tmp 47) rfl acc.length rfl rfl rfl ?_; intro g6 c6 w6 O6)
      have HO6 := hide O6
      clear O6
      have hl6 : (acc ++ [(⟨max a.lo b.lo, min a.hi b.hi⟩ : Rn)]).length = acc.length + 1 := by simp
      have k1 := cell_regrown ((HO6.out.below.cell (World.block_lt_of_cell? _ _ HQ1.out)).trans HQ1.out)
      have k3 := cell_regrown ((HO6.out.below.cell (World.block_lt_of_cell? _ _ HQ3.out)).trans HQ3.out)
      refine wp_region_quiet_below (by kernel_rfl) (by kernel_rfl) ?_
      repeat (with_reducible (refine wpQuiet_step ?_); intro K hK; go_simp; (try rw [if_neg (by unfold undef; simp)]); first | (with_reducible (refine hK _ ?_); clear hK K) | (apply Exists.intro; refine ⟨fun _ => ?_, hK _ ?_⟩; (fail); clear hK K))
      with_reducible (refine wpQuiet_nil ?_)
      intro w8 hw'
      obtain ⟨⟨dq, osq⟩, hw''⟩ := hw'
      have b8 : Below w6.heap.size w6 w8 := by rw [hw'']; exact below_regrown w6 dq osq
      clear hw'' dq osq
      have HO8 := hide (HO6.out.later b8)
      clear b8 k1 k3
      have HM : Hid (met acc a b = acc ++ [⟨max a.lo b.lo, min a.hi b.hi⟩]) := by show _ = _; unfold met; rw [if_pos (by omega)]
      have HN := hide (H.out.2.left (by omega))
      rw [HM.out] at HN
      go_wp2_with fail
      go_roundw
      case rel => exact ⟨if cx = 1 then some ⟨bx, ox, none⟩ else some ⟨bx, ox + 2, none⟩, nx - 1, cx - 1, xs, some ⟨by_, oy, none⟩, ny, cy, b :: ys, some ⟨g6, 0, none⟩, c6, acc ++ [⟨max a.lo b.lo, min a.hi b.hi⟩], rfl, rfl, by simp, HSX.out.tail', HSY.out, HO8.out, HN.out⟩
      case measure => simp [lenOfS]; omega
     ·go_wp2_with fail
      refine wp_region_quiet_below (by kernel_rfl) (by kernel_rfl) ?_
      repeat (with_reducible (refine wpQuiet_step ?_); intro K hK; go_simp; (try rw [if_neg (by unfold undef; simp)]); first | (with_reducible (refine hK _ ?_); clear hK K) | (apply Exists.intro; refine ⟨fun _ => ?_, hK _ ?_⟩; (fail); clear hK K))
      with_reducible (refine wpQuiet_nil ?_)
      intro w5 hw'
      obtain ⟨⟨dq, osq⟩, hw''⟩ := hw'
      have b5 : Below w4.heap.size w4 w5 := by rw [hw'']; exact below_regrown w4 dq osq
      clear hw'' dq osq
      have HO5 := hide (H.out.1.later b5)
      clear b5 k0 k1 k2 k3
      go_wp2_with (at_builtin; refine HO5.out.append ⟨max a.lo b.lo, min a.hi b.hi⟩ _ rfl (by omega) rfl (.tmp 43) (.tmp 47) rfl acc.length rfl rfl rfl ?_; intro g6 c6 w6 O6)
      have HO6 := hide O6
      clear O6
      have hl6 : (acc ++ [(⟨max a.lo b.lo, min a.hi b.hi⟩ : Rn)]).length = acc.length + 1 := by simp
      have k1 := cell_regrown ((HO6.out.below.cell (World.block_lt_of_cell? _ _ HQ1.out)).trans HQ1.out)
      have k3 := cell_regrown ((HO6.out.below.cell (World.block_lt_of_cell? _ _ HQ3.out)).trans HQ3.out)
      refine wp_region_quiet_below (by kernel_rfl) (by kernel_rfl) ?_
      repeat (with_reducible (refine wpQuiet_step ?_); intro K hK; go_simp; (try rw [if_neg (by unfold undef; simp)]); first | (with_reducible (refine hK _ ?_); clear hK K) | (apply Exists.intro; refine ⟨fun _ => ?_, hK _ ?_⟩; (fail); clear hK K))
      with_reducible (refine wpQuiet_nil ?_)
      intro w8 hw'
      obtain ⟨⟨dq, osq⟩, hw''⟩ := hw'
      have b8 : Below w6.heap.size w6 w8 := by rw [hw'']; exact below_regrown w6 dq osq
      clear hw'' dq osq
      have HO8 := hide (HO6.out.later b8)
      clear b8 k1 k3
      have HM : Hid (met acc a b = acc ++ [⟨max a.lo b.lo, min a.hi b.hi⟩]) := by show _ = _; unfold met; rw [if_pos (by omega)]
      have HN := hide (H.out.2.right (by omega))
      rw [HM.out] at HN
      go_wp2_with fail
      go_roundw
      case rel => exact ⟨some ⟨bx, ox, none⟩, nx, cx, a :: xs, if cy = 1 then some ⟨by_, oy, none⟩ else some ⟨by_, oy + 2, none⟩, ny - 1, cy - 1, ys, some ⟨g6, 0, none⟩, c6, acc ++ [⟨max a.lo b.lo, min a.hi b.hi⟩], rfl, rfl, by simp, HSX.out, HSY.out.tail', HO8.out, HN.out⟩
      case measure => simp [lenOfS]; omega
    ·by_cases hlt : a.hi < b.hi
     ·go_wp2_with fail
      refine wp_region_quiet_below (by kernel_rfl) (by kernel_rfl) ?_
      repeat (with_reducible (refine wpQuiet_step ?_); intro K hK; go_simp; (try rw [if_neg (by unfold undef; simp)]); first | (with_reducible (refine hK _ ?_); clear hK K) | (apply Exists.intro; refine ⟨fun _ => ?_, hK _ ?_⟩; (fail); clear hK K))
      with_reducible (refine wpQuiet_nil ?_)
      intro w5 hw'
      obtain ⟨⟨dq, osq⟩, hw''⟩ := hw'
      have b5 : Below w4.heap.size w4 w5 := by rw [hw'']; exact below_regrown w4 dq osq
      clear hw'' dq osq
      have HO5 := hide (H.out.1.later b5)
      clear b5 k0 k1 k2 k3
      go_wp2_with fail
      have k1 := cell_regrown ((HO5.out.below.cell (World.block_lt_of_cell? _ _ HQ1.out)).trans HQ1.out)
      have k3 := cell_regrown ((HO5.out.below.cell (World.block_lt_of_cell? _ _ HQ3.out)).trans HQ3.out)
      refine wp_region_quiet_below (by kernel_rfl) (by kernel_rfl) ?_
      repeat (with_reducible (refine wpQuiet_step ?_); intro K hK; go_simp; (try rw [if_neg (by unfold undef; simp)]); first | (with_reducible (refine hK _ ?_); clear hK K) | (apply Exists.intro; refine ⟨fun _ => ?_, hK _ ?_⟩; (fail); clear hK K))
      with_reducible (refine wpQuiet_nil ?_)
      intro w8 hw'
      obtain ⟨⟨dq, osq⟩, hw''⟩ := hw'
      have b8 : Below w5.heap.size w5 w8 := by rw [hw'']; exact below_regrown w5 dq osq
      clear hw'' dq osq
      have HO8 := hide (HO5.out.later b8)
      clear b8 k1 k3
      have HM : Hid (met acc a b = acc) := by show _ = _; unfold met; rw [if_neg (by omega)]
      have HN := hide (H.out.2.left (by omega))
      rw [HM.out] at HN
      go_wp2_with fail
      go_roundw
      case rel => exact ⟨if cx = 1 then some ⟨bx, ox, none⟩ else some ⟨bx, ox + 2, none⟩, nx - 1, cx - 1, xs, some ⟨by_, oy, none⟩, ny, cy, b :: ys, ap, c, acc, rfl, rfl, rfl, HSX.out.tail', HSY.out, HO8.out, HN.out⟩
      case measure => simp [lenOfS]; omega
     ·go_wp2_with fail
      refine wp_region_quiet_below (by kernel_rfl) (by kernel_rfl) ?_
      repeat (with_reducible (refine wpQuiet_step ?_); intro K hK; go_simp; (try rw [if_neg (by unfold undef; simp)]); first | (with_reducible (refine hK _ ?_); clear hK K) | (apply Exists.intro; refine ⟨fun _ => ?_, hK _ ?_⟩; (fail); clear hK K))
      with_reducible (refine wpQuiet_nil ?_)
      intro w5 hw'
      obtain ⟨⟨dq, osq⟩, hw''⟩ := hw'
      have b5 : Below w4.heap.size w4 w5 := by rw [hw'']; exact below_regrown w4 dq osq
      clear hw'' dq osq
      have HO5 := hide (H.out.1.later b5)
      clear b5 k0 k1 k2 k3
      go_wp2_with fail
      have k1 := cell_regrown ((HO5.out.below.cell (World.block_lt_of_cell? _ _ HQ1.out)).trans HQ1.out)
      have k3 := cell_regrown ((HO5.out.below.cell (World.block_lt_of_cell? _ _ HQ3.out)).trans HQ3.out)
      refine wp_region_quiet_below (by kernel_rfl) (by kernel_rfl) ?_
      repeat (with_reducible (refine wpQuiet_step ?_); intro K hK; go_simp; (try rw [if_neg (by unfold undef; simp)]); first | (with_reducible (refine hK _ ?_); clear hK K) | (apply Exists.intro; refine ⟨fun _ => ?_, hK _ ?_⟩; (fail); clear hK K))
      with_reducible (refine wpQuiet_nil ?_)
      intro w8 hw'
      obtain ⟨⟨dq, osq⟩, hw''⟩ := hw'
      have b8 : Below w5.heap.size w5 w8 := by rw [hw'']; exact below_regrown w5 dq osq
      clear hw'' dq osq
      have HO8 := hide (HO5.out.later b8)
      clear b8 k1 k3
      have HM : Hid (met acc a b = acc) := by show _ = _; unfold met; rw [if_neg (by omega)]
      have HN := hide (H.out.2.right (by omega))
      rw [HM.out] at HN
      go_wp2_with fail
      go_roundw
      case rel => exact ⟨some ⟨bx, ox, none⟩, nx, cx, a :: xs, if cy = 1 then some ⟨by_, oy, none⟩ else some ⟨by_, oy + 2, none⟩, ny - 1, cy - 1, ys, ap, c, acc, rfl, rfl, rfl, HSX.out, HSY.out.tail', HO8.out, HN.out⟩
      case measure => simp [lenOfS]; omega
   ·obtain rfl : ny = 0 := by omega
    have hy : y' = [] := List.eq_nil_of_length_eq_zero HSY.out.len
    have HD := hide (H.out.2.done (Or.inr hy) HP1.out HP2.out)
    obtain ⟨S4, F4⟩ := H.out.1.src (by omega)
    have HN : Hid (GivesRN w w4 (.returned (.slice ap acc.length c)) (MeetOf A B)) := ⟨ap, acc.length, c, acc, rfl, S4, HB2.out.trans (H.out.1.below.mono HB2.out.size), (fun ad h => Nat.le_trans HB2.out.size (F4 ad h)), HD.out⟩
    clear S4 F4
    go_wp2_with fail
    go_ret
    exact HN.out
  ·obtain rfl : nx = 0 := by omega
   have hx : x' = [] := List.eq_nil_of_length_eq_zero HSX.out.len
   have HD := hide (H.out.2.done (Or.inl hx) HP1.out HP2.out)
   obtain ⟨S4, F4⟩ := H.out.1.src (by omega)
   have HN : Hid (GivesRN w w4 (.returned (.slice ap acc.length c)) (MeetOf A B)) := ⟨ap, acc.length, c, acc, rfl, S4, HB2.out.trans (H.out.1.below.mono HB2.out.size), (fun ad h => Nat.le_trans HB2.out.size (F4 ad h)), HD.out⟩
   clear S4 F4
   go_wp2_with fail
   go_ret
   exact HN.out
end Go.Proofs.YtehcehhfdhiomaaGreat
