/- The reader's Fail; a reader that is over. -/
import Derived.Test.YtflinfmhmokfhaaURk
namespace Go.Proofs.Ytflinfmhmokfhaa
open Go.RowKit
variable {w w' w2 : World} {g : Nat} {ro so : Option Addr} {rn rc sn sc : Nat} {gave : Int} {over : Bool} {Z : List Int}

def OrK (k : Nat) (e : Int) : Prop := k = 1 → e = 0
def orE (e : Int) : Int := if e = 0 then 8 else e
set_option maxRecDepth 100000 in
theorem or_any (e : Int) (w : World) : Calls Try.prog 44 #[.slice (some ⟨w.heap.size, 0, none⟩) 2 2] (w.alloc (.cells #[.int .i64 e, .int .i64 8] 26)) fun r w' => r = .returned (.int .i64 (orE e)) ∧ w' = w.alloc (.cells #[.int .i64 e, .int .i64 8] 26) := by
  have h1 := heap_alloc_new w (.cells #[.int .i64 e, .int .i64 8] 26)
  obtain ⟨q, hq⟩ : ∃ q, w.heap.size = q := ⟨_, rfl⟩
  rw [hq] at h1 ⊢
  generalize w.alloc (.cells #[.int .i64 e, .int .i64 8] 26) = w1 at h1 ⊢
  have c0 : w1.cell? ⟨q, 0, none⟩ = some (.int .i64 e) := by simp [World.cell?, h1]
  have c1 : w1.cell? ⟨q, 1, none⟩ = some (.int .i64 8) := by simp [World.cell?, h1]
  clear h1
  go_enter Try.func44, Try.ntmps44
  go_wp2_with fail
  go_loopw [8] (fun i wr => ∃ k : Nat, k ≤ 1 ∧ i = .int .i64 k ∧ Hid (OrK k e) ∧ wr = w1) (fun i _ => 2 - (intOf i).toNat)
  case atStart => exact ⟨0, by decide, rfl, (fun h => by cases h), rfl⟩
  case round =>
    obtain ⟨k, hk, rfl, HK, rfl⟩ := hrel
    by_cases h0 : k = 0
    · subst h0
      by_cases he : e = 0
      · subst he
        go_wp2_with fail
        go_roundw
        case rel => exact ⟨1, Nat.le_refl _, rfl, (show OrK 1 0 from fun _ => rfl), by trivial⟩
        case measure => simp [intOf]
      · have heb : (e != 0) = true := by simpa using he
        have HE : Hid (orE e = e) := if_neg he
        clear he
        go_wp2_with fail
        go_ret
        exact ⟨by rw [HE.out]; rfl, rfl⟩
    · obtain rfl : k = 1 := by omega
      have HE : Hid (orE e = 8) := if_pos (HK.out rfl)
      go_wp2_with fail
      go_ret
      exact ⟨by rw [HE.out]; rfl, rfl⟩
set_option maxRecDepth 100000 in
theorem fail_live (R : RL w g ro rn rc Z) (e : Int) : Calls Try.prog 31 #[ptr g, .int .i64 e] w fun r w' => r = .panicked (ups g) ∧ Gave w w' g (orE e) := by
  have HM := hide (mayRead_live R.r)
  have HO := hide (or_any e w)
  have b1 := below_new w (.cells #[.int .i64 e, .int .i64 8] 26)
  have HU := hide (giveUp_any (R.kg_below b1).r (orE e))
  have HB := hide b1
  clear R b1
  go_enter Try.func31, Try.ntmps31
  go_wp2_with fail
  refine HM.out.mono ?_
  rintro r w2 ⟨rfl, rfl⟩
  go_wp2_with fail
  refine HO.out.mono ?_
  rintro r w3 ⟨rfl, rfl⟩
  go_wp2_with fail
  refine HU.out.mono ?_
  rintro r w3 ⟨rfl, R3, K3⟩
  have HE : Hid (Gave w2 w3 g (orE e)) := ⟨R3, (Kg.of_below HB.out).trans K3⟩
  clear R3 K3
  go_wp2_with fail
  exact ⟨rfl, rfl, HE.out⟩
/-! ### a reader that is over -/
set_option maxRecDepth 100000 in
theorem fail_over (R : Rdr w g none 0 0 gave true) (e : Int) : Calls Try.prog 31 #[ptr g, .int .i64 e] w fun r w' => r = .returned (.tuple #[]) ∧ w' = w := by
  have HM := hide (mayRead_over R)
  clear R
  go_enter Try.func31, Try.ntmps31
  go_wp2_with fail
  refine HM.out.mono ?_
  rintro r w2 ⟨rfl, rfl⟩
  go_wp2_with fail
  go_end0
  exact ⟨rfl, rfl⟩
set_option maxRecDepth 100000 in
theorem num_over (R : Rdr w g none 0 0 gave true) (most : Int) : Calls Try.prog 25 #[ptr g, .int .i64 most] w fun r w' => r = .returned (.int .i64 0) ∧ w' = w := by
  have HM := hide (mayRead_over R)
  clear R
  go_enter Try.func25, Try.ntmps25
  go_wp2_with fail
  refine HM.out.mono ?_
  rintro r w2 ⟨rfl, rfl⟩
  go_wp2_with fail
  go_ret
  exact ⟨rfl, rfl⟩
set_option maxRecDepth 100000 in
theorem flag_over (R : Rdr w g none 0 0 gave true) : Calls Try.prog 26 #[ptr g] w fun r w' => r = .returned (.bool false) ∧ w' = w := by
  have HM := hide (mayRead_over R)
  clear R
  go_enter Try.func26, Try.ntmps26
  go_wp2_with fail
  refine HM.out.mono ?_
  rintro r w2 ⟨rfl, rfl⟩
  go_wp2_with fail
  go_ret
  exact ⟨rfl, rfl⟩
set_option maxRecDepth 100000 in
theorem count_over (R : Rdr w g none 0 0 gave true) : Calls Try.prog 27 #[ptr g, .int .i64 1] w fun r w' => r = .returned (.int .i64 0) ∧ w' = w := by
  have HM := hide (num_over R 9223372036854775807)
  have x0 := R.c0
  clear R
  go_enter Try.func27, Try.ntmps27
  go_wp2_with fail
  refine HM.out.mono ?_
  rintro r w2 ⟨rfl, rfl⟩
  go_wp2_with fail
  go_ret
  exact ⟨rfl, rfl⟩
/-- nothing but its own place was written, and that as it was -/
structure Ov (w w' : World) (g : Nat) (gave : Int) : Prop where
  r : Rdr w' g none 0 0 gave true
  k : Kg w w' g
set_option maxRecDepth 100000 in
theorem piece_over (R : Rdr w g none 0 0 gave true) (most : Int) : Calls Try.prog 43 #[ptr g, .int .i64 most] w fun r w' => r = .returned (.slice none 0 0) ∧ Ov w w' g gave := by
  have HM := hide (num_over R most)
  have x0 := R.c0
  have z0 := R.z 0
  have HE : Hid (Ov w (w.setCell ⟨g, 0, none⟩ (.slice none 0 0)) g gave) := ⟨R.set0 none 0 0, (Kg.refl w g).set 0 (.slice none 0 0)⟩
  clear R
  go_enter Try.func43, Try.ntmps43
  go_wp2_with fail
  refine HM.out.mono ?_
  rintro r w2 ⟨rfl, rfl⟩
  go_wp2_with fail
  go_ret
  exact ⟨rfl, HE.out⟩
set_option maxRecDepth 100000 in
theorem text_over (R : Rdr w g none 0 0 gave true) (most : Int) : Calls Try.prog 28 #[ptr g, .int .i64 most] w fun r w' => r = .returned (.string ⟨#[]⟩) ∧ Ov w w' g gave := by
  have HM := hide (piece_over R most)
  clear R
  go_enter Try.func28, Try.ntmps28
  go_wp2_with fail
  refine HM.out.mono ?_
  rintro r w2 ⟨rfl, h2⟩
  have hs := (BS.nil_ w2).str
  have e : strOfNums [] = ⟨#[]⟩ := rfl
  rw [e] at hs
  have HE := hide h2
  clear h2
  go_wp2_with fail
  go_ret
  exact ⟨rfl, HE.out⟩
set_option maxRecDepth 100000 in
theorem frame_over (R : Rdr w g none 0 0 gave true) (most : Int) : Calls Try.prog 29 #[ptr g, .int .i64 most] w fun r w' => (∃ bo c, r = .returned (.slice bo 0 c)) ∧ Ov w w' g gave := by
  have HM := hide (piece_over R most)
  clear R
  go_enter Try.func29, Try.ntmps29
  go_wp2_with fail
  refine HM.out.mono ?_
  rintro r w2 ⟨rfl, h2⟩
  have HC := hide (clone_any none 0 0 [] w2 (BS.nil_ w2) (by decide))
  have HE := hide h2
  clear h2
  go_wp2_with fail
  refine HC.out.mono ?_
  rintro r w3 ⟨bo, c, rfl, -, N⟩
  have HF : Hid (Ov w w3 g gave) := ⟨(N.1.block g HE.out.r.lt).trans HE.out.r, HE.out.k.trans (Kg.of_below N.1)⟩
  clear N
  go_wp2_with fail
  go_ret
  exact ⟨⟨bo, c, rfl⟩, HF.out⟩
end Go.Proofs.Ytflinfmhmokfhaa
