/- Union; SpanMembers: the law's walk. -/
import Derived.Test.YtahlchijgfillaaRCt
import Derived.Test.YtahlchijgfillaaRHs
import Derived.Test.YtahlchijgfillaaRAw
namespace Go.Proofs.Ytahlchijgfillaa
open Go.RowKit
attribute [local go_sem ↓] ldR_eq stR_eq
attribute [local go_sem] zero_RC cells_RV RC_size fold_RC build_RC

def UnionOf (A B R : List Rn) : Prop := form 1 R ∧ ∀ n, mem R n ↔ mem A n ∨ mem B n
theorem union_any (gb : Nat) (ao bo : Option Addr) (n cap m cap' : Nat) (A B : List Rn) (w : World) (hS : RSrc w ao n cap A) (hR : RSrc w bo m cap' B) (c0 : w.cell? ⟨gb, 0, none⟩ = some (.slice ao n cap)) (c1 : w.cell? ⟨gb, 1, none⟩ = some (.slice bo m cap')) (hlen : n + m ≤ 8796093022207) :
    Calls Try.prog 9 #[.slice (some ⟨gb, 0, none⟩) 2 2] w fun e w' => GivesR w w' e (UnionOf A B) := by
  have HC := hide (concat_any gb ao bo n cap m cap' A B w hS hR c0 c1 hlen)
  have HL : Hid ((A ++ B).length = n + m) := by show _ = _; rw [List.length_append, hS.len, hR.len]
  clear hS hR c0 c1
  go_enter Try.func9, Try.ntmps9
  go_wp2_with fail
  refine HC.out.mono ?_
  rintro e w1 ⟨a1, c1, rfl, O1⟩
  have S1 := (O1.src (by rw [HL.out]; exact hlen)).1
  rw [HL.out] at S1
  have HS1 := hide S1
  have HB1 := hide O1.below
  clear O1 S1
  go_wp2_with fail
  refine (norm_any a1 (n + m) c1 (A ++ B) _ HS1.out).mono ?_
  rintro e w2 ⟨a2, n2, c2, X, rfl, S2, b2, p2⟩
  have HF : Hid (GivesR w w2 (.returned (.slice a2 n2 c2)) (UnionOf A B)) := ⟨a2, n2, c2, X, rfl, S2, HB1.out.trans (b2.mono HB1.out.size), p2.1, fun x => by rw [p2.2 x, mem_append]⟩
  clear S2 b2 p2
  go_wp2_with fail
  go_ret
  exact HF.out
set_option maxRecDepth 100000 in
set_option maxHeartbeats 1000000 in
theorem members_any (ao bo : Option Addr) (n cap m cap' : Nat) (A B : List Rn) (z : Int) (w : World) (hS : RSrc w ao n cap A) (hR : RSrc w bo m cap' B) (hlen : n + m ≤ 8796093022207) :
    Calls Try.prog 3 #[.slice ao n cap, .slice bo m cap', .int .i64 z] w fun e w' => e = .returned (.bool true) ∧ Below w.heap.size w w' := by
  have HS := hide hS
  have HR := hide hR
  clear hS hR
  go_enter Try.func3, Try.ntmps3
  go_wp2_with fail
  refine (awake_any _).mono ?_
  rintro e w1 ⟨rfl, b1⟩
  have HB1 := hide b1
  clear b1
  go_wp2_with fail
  refine (has_any _ 1 1 [⟨1, 9⟩] 5 _ (lit_rsrc w1 [⟨1, 9⟩] _ rfl _ 1 rfl (by omega))).mono ?_
  rintro e w2 ⟨b, rfl, hb, b2⟩
  obtain rfl : b = true := hb.2 ⟨by omega, by omega, ⟨1, 9⟩, List.mem_singleton.2 rfl, by decide, by decide⟩
  have HB2 := hide (HB1.out.trans (((below_new _ _).trans (b2.mono (below_new _ _).size)).mono HB1.out.size))
  clear b2 hb HB1
  go_wp2_with fail
  refine (has_any ao n cap A z _ (HS.out.below HB2.out)).mono ?_
  rintro e w3 ⟨x, rfl, hx, b3⟩
  have HX := hide hx
  have HB3 := hide (HB2.out.trans (b3.mono HB2.out.size))
  clear b3 hx HB2
  go_wp2_with fail
  refine (has_any bo m cap' B z _ (HR.out.below HB3.out)).mono ?_
  rintro e w4 ⟨y, rfl, hy, b4⟩
  have HY := hide hy
  have HB4 := hide (HB3.out.trans (b4.mono HB3.out.size))
  clear b4 hy HB3
  go_wp2_with fail
  have k0 : (w4.alloc (.cells #[.slice ao n cap, .slice bo m cap'] 22)).cell? ⟨w4.heap.size, 0, none⟩ = some (.slice ao n cap) := by simp
  have k1 : (w4.alloc (.cells #[.slice ao n cap, .slice bo m cap'] 22)).cell? ⟨w4.heap.size, 1, none⟩ = some (.slice bo m cap') := by simp
  have HB5 := hide (HB4.out.trans ((below_new w4 (.cells #[.slice ao n cap, .slice bo m cap'] 22)).mono HB4.out.size))
  refine (union_any w4.heap.size ao bo n cap m cap' A B _ (HS.out.below HB5.out) (HR.out.below HB5.out) k0 k1 hlen).mono ?_
  rintro e w6 ⟨a6, n6, c6, U, rfl, S6, b6, p6⟩
  have HS6 := hide S6
  have HU := hide p6
  have HB6 := hide (HB5.out.trans (b6.mono HB5.out.size))
  clear S6 b6 p6 HB4 HB5 k0 k1
  go_wp2_with fail
  refine (has_any a6 n6 c6 U z _ HS6.out).mono ?_
  rintro e w7 ⟨u, rfl, hu, b7⟩
  have HUU : Hid (u = true ↔ x = true ∨ y = true) := by rw [HX.out, HY.out, ← HU.out.2 z]; exact hu
  have HB7 := hide (HB6.out.trans (b7.mono HB6.out.size))
  clear b7 hu HB6 HS6 HU
  cases x with
  | true =>
    cases y with
    | true =>
      obtain rfl : u = true := by have := HUU.out; simpa using this
      go_wp2_with fail
      refine (meet_any ao bo n cap m cap' A B _ (HS.out.below HB7.out) (HR.out.below HB7.out)).mono ?_
      rintro e w8 ⟨a8, n8, c8, M, rfl, S8, b8, p8⟩
      have HS8 := hide S8
      have HM := hide p8
      have HB8 := hide (HB7.out.trans (b8.mono HB7.out.size))
      clear S8 b8 p8
      go_wp2_with fail
      refine (has_any a8 n8 c8 M z _ HS8.out).mono ?_
      rintro e w9 ⟨b, rfl, hb, b9⟩
      rw [HM.out.2 z, ← HX.out, ← HY.out] at hb
      obtain rfl : b = true := by simpa using hb
      have HB9 := hide (HB8.out.trans (b9.mono HB8.out.size))
      clear b9 hb
      go_wp2_with fail
      refine (minus_any ao bo n cap m cap' A B _ (HS.out.below HB9.out) (HR.out.below HB9.out)).mono ?_
      rintro e w10 ⟨a10, n10, c10, D, rfl, S10, b10, p10⟩
      have HS10 := hide S10
      have HD := hide p10
      have HB10 := hide (HB9.out.trans (b10.mono HB9.out.size))
      clear S10 b10 p10
      go_wp2_with fail
      refine (has_any a10 n10 c10 D z _ HS10.out).mono ?_
      rintro e w11 ⟨b, rfl, hb, b11⟩
      rw [HD.out.2 z, ← HX.out, ← HY.out] at hb
      obtain rfl : b = false := by simpa using hb
      have HB11 := hide (HB10.out.trans (b11.mono HB10.out.size))
      clear b11 hb
      have hz : 1 ≤ z ∧ z ≤ 1000000000 := by have := HX.out.1 (by simp); exact ⟨this.1, this.2.1⟩
      obtain ⟨z1, z2⟩ := hz
      go_wp2_with fail
      refine (within_any ao bo n cap m cap' A B _ (HS.out.below HB11.out) (HR.out.below HB11.out)).mono ?_
      rintro e w12 ⟨t, rfl, ht, b12⟩
      have HB12 := hide (HB11.out.trans (b12.mono HB11.out.size))
      clear b12
      clear ht
      cases t with
      | true =>
        go_wp2_with fail
        go_ret
        exact ⟨by simp <;> omega, HB12.out⟩
      | false =>
        go_wp2_with fail
        go_ret
        exact ⟨by simp <;> omega, HB12.out⟩
    | false =>
      obtain rfl : u = true := by have := HUU.out; simpa using this
      go_wp2_with fail
      refine (meet_any ao bo n cap m cap' A B _ (HS.out.below HB7.out) (HR.out.below HB7.out)).mono ?_
      rintro e w8 ⟨a8, n8, c8, M, rfl, S8, b8, p8⟩
      have HS8 := hide S8
      have HM := hide p8
      have HB8 := hide (HB7.out.trans (b8.mono HB7.out.size))
      clear S8 b8 p8
      go_wp2_with fail
      refine (has_any a8 n8 c8 M z _ HS8.out).mono ?_
      rintro e w9 ⟨b, rfl, hb, b9⟩
      rw [HM.out.2 z, ← HX.out, ← HY.out] at hb
      obtain rfl : b = false := by simpa using hb
      have HB9 := hide (HB8.out.trans (b9.mono HB8.out.size))
      clear b9 hb
      go_wp2_with fail
      refine (minus_any ao bo n cap m cap' A B _ (HS.out.below HB9.out) (HR.out.below HB9.out)).mono ?_
      rintro e w10 ⟨a10, n10, c10, D, rfl, S10, b10, p10⟩
      have HS10 := hide S10
      have HD := hide p10
      have HB10 := hide (HB9.out.trans (b10.mono HB9.out.size))
      clear S10 b10 p10
      go_wp2_with fail
      refine (has_any a10 n10 c10 D z _ HS10.out).mono ?_
      rintro e w11 ⟨b, rfl, hb, b11⟩
      rw [HD.out.2 z, ← HX.out, ← HY.out] at hb
      obtain rfl : b = true := by simpa using hb
      have HB11 := hide (HB10.out.trans (b11.mono HB10.out.size))
      clear b11 hb
      have hz : 1 ≤ z ∧ z ≤ 1000000000 := by have := HX.out.1 (by simp); exact ⟨this.1, this.2.1⟩
      obtain ⟨z1, z2⟩ := hz
      go_wp2_with fail
      refine (within_any ao bo n cap m cap' A B _ (HS.out.below HB11.out) (HR.out.below HB11.out)).mono ?_
      rintro e w12 ⟨t, rfl, ht, b12⟩
      have HB12 := hide (HB11.out.trans (b12.mono HB11.out.size))
      clear b12
      obtain rfl : t = false := by
        cases t with
        | false => rfl
        | true => have := HY.out.2 (ht.1 rfl z (HX.out.1 (by simp))); simp at this
      clear ht
      go_wp2_with fail
      go_ret
      exact ⟨by simp <;> omega, HB12.out⟩
  | false =>
    cases y with
    | true =>
      obtain rfl : u = true := by have := HUU.out; simpa using this
      go_wp2_with fail
      refine (meet_any ao bo n cap m cap' A B _ (HS.out.below HB7.out) (HR.out.below HB7.out)).mono ?_
      rintro e w8 ⟨a8, n8, c8, M, rfl, S8, b8, p8⟩
      have HS8 := hide S8
      have HM := hide p8
      have HB8 := hide (HB7.out.trans (b8.mono HB7.out.size))
      clear S8 b8 p8
      go_wp2_with fail
      refine (has_any a8 n8 c8 M z _ HS8.out).mono ?_
      rintro e w9 ⟨b, rfl, hb, b9⟩
      rw [HM.out.2 z, ← HX.out, ← HY.out] at hb
      obtain rfl : b = false := by simpa using hb
      have HB9 := hide (HB8.out.trans (b9.mono HB8.out.size))
      clear b9 hb
      go_wp2_with fail
      refine (minus_any ao bo n cap m cap' A B _ (HS.out.below HB9.out) (HR.out.below HB9.out)).mono ?_
      rintro e w10 ⟨a10, n10, c10, D, rfl, S10, b10, p10⟩
      have HS10 := hide S10
      have HD := hide p10
      have HB10 := hide (HB9.out.trans (b10.mono HB9.out.size))
      clear S10 b10 p10
      go_wp2_with fail
      refine (has_any a10 n10 c10 D z _ HS10.out).mono ?_
      rintro e w11 ⟨b, rfl, hb, b11⟩
      rw [HD.out.2 z, ← HX.out, ← HY.out] at hb
      obtain rfl : b = false := by simpa using hb
      have HB11 := hide (HB10.out.trans (b11.mono HB10.out.size))
      clear b11 hb
      go_wp2_with fail
      refine (within_any ao bo n cap m cap' A B _ (HS.out.below HB11.out) (HR.out.below HB11.out)).mono ?_
      rintro e w12 ⟨t, rfl, ht, b12⟩
      have HB12 := hide (HB11.out.trans (b12.mono HB11.out.size))
      clear b12
      clear ht
      cases t with
      | true =>
        go_wp2_with fail
        go_ret
        exact ⟨rfl, HB12.out⟩
      | false =>
        go_wp2_with fail
        go_ret
        exact ⟨rfl, HB12.out⟩
    | false =>
      obtain rfl : u = false := by have := HUU.out; simpa using this
      go_wp2_with fail
      refine (meet_any ao bo n cap m cap' A B _ (HS.out.below HB7.out) (HR.out.below HB7.out)).mono ?_
      rintro e w8 ⟨a8, n8, c8, M, rfl, S8, b8, p8⟩
      have HS8 := hide S8
      have HM := hide p8
      have HB8 := hide (HB7.out.trans (b8.mono HB7.out.size))
      clear S8 b8 p8
      go_wp2_with fail
      refine (has_any a8 n8 c8 M z _ HS8.out).mono ?_
      rintro e w9 ⟨b, rfl, hb, b9⟩
      rw [HM.out.2 z, ← HX.out, ← HY.out] at hb
      obtain rfl : b = false := by simpa using hb
      have HB9 := hide (HB8.out.trans (b9.mono HB8.out.size))
      clear b9 hb
      go_wp2_with fail
      refine (minus_any ao bo n cap m cap' A B _ (HS.out.below HB9.out) (HR.out.below HB9.out)).mono ?_
      rintro e w10 ⟨a10, n10, c10, D, rfl, S10, b10, p10⟩
      have HS10 := hide S10
      have HD := hide p10
      have HB10 := hide (HB9.out.trans (b10.mono HB9.out.size))
      clear S10 b10 p10
      go_wp2_with fail
      refine (has_any a10 n10 c10 D z _ HS10.out).mono ?_
      rintro e w11 ⟨b, rfl, hb, b11⟩
      rw [HD.out.2 z, ← HX.out, ← HY.out] at hb
      obtain rfl : b = false := by simpa using hb
      have HB11 := hide (HB10.out.trans (b11.mono HB10.out.size))
      clear b11 hb
      go_wp2_with fail
      refine (within_any ao bo n cap m cap' A B _ (HS.out.below HB11.out) (HR.out.below HB11.out)).mono ?_
      rintro e w12 ⟨t, rfl, ht, b12⟩
      have HB12 := hide (HB11.out.trans (b12.mono HB11.out.size))
      clear b12
      clear ht
      cases t with
      | true =>
        go_wp2_with fail
        go_ret
        exact ⟨rfl, HB12.out⟩
      | false =>
        go_wp2_with fail
        go_ret
        exact ⟨rfl, HB12.out⟩
end Go.Proofs.Ytahlchijgfillaa
