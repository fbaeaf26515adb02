/- Merge: its contract. -/
import Derived.Test.YtdilejbdkhkifaaIsN
namespace Go.Proofs.Ytdilejbdkhkifaa
open Go.RowKit
attribute [local go_sem ↓] ld56_eq st56_eq
attribute [local go_sem] zeros_VC cells_VA

/-- a list of lists: each row, and its numbers -/
structure Rows (w : World) (ao : Option Addr) (m c : Nat) (A : Nat → Option Addr) (N C : Nat → Nat) (Z : Nat → List Int) : Prop where
  nil : ao = none → m = 0 ∧ c = 0
  cell : ∀ ad, ao = some ad → ∀ t, t < m → w.cell? (ad.add t) = some (.slice (A t) (N t) (C t))
  src : ∀ t, t < m → Src w (A t) (N t) (C t) (Z t)
theorem Rows.below {w w' : World} {ao : Option Addr} {m c : Nat} {A : Nat → Option Addr} {N C : Nat → Nat} {Z : Nat → List Int} (h : Rows w ao m c A N C Z) (hb : Below w.heap.size w w') : Rows w' ao m c A N C Z :=
  ⟨h.nil, fun ad ha t ht => (hb.cell (World.block_lt_of_cell? w _ (h.cell ad ha t ht))).trans (h.cell ad ha t ht), fun t ht => (h.src t ht).below hb⟩
def mergeF (Z : Nat → List Int) : Nat → (Nat → Int)
  | 0 => fun _ => 0
  | k + 1 => fmax (mergeF Z k) (at' (Z k))

set_option maxHeartbeats 1600000 in
theorem merge_any (ao : Option Addr) (m c : Nat) (A : Nat → Option Addr) (N C : Nat → Nat) (Z : Nat → List Int) (w : World) (hR : Rows w ao m c A N C Z) (hm : m ≤ maxLen) :
    Calls Try.prog 26 #[.slice ao m c] w fun e w' => Gives w w' e (short (mergeF Z m)) := by
  have HR := hide hR
  unfold maxLen at hm
  clear hR
  go_enter Try.func26, Try.ntmps26
  go_wp2_with fail
  go_loopw [8] (fun i wr => ∃ k : Nat, k ≤ m ∧ i = .int .i64 k ∧ Hid (Arr wr w.heap.size 56 (mergeF Z k)) ∧ Hid (Below w.heap.size w wr)) (fun i _ => m - (intOf i).toNat)
  case atStart => exact ⟨0, Nat.zero_le _, rfl, arr_new w 56 _, (Below.refl _ _).alloc (Nat.le_refl _) _⟩
  case round =>
    obtain ⟨k, hk, rfl, HA, HB⟩ := hrel
    by_cases hlt : k < m
    · obtain ⟨ad, rfl⟩ : ∃ ad, ao = some ad := by
        cases ao with
        | none => have := HR.out.nil rfl; omega
        | some ad => exact ⟨ad, rfl⟩
      have RK := HR.out.below HB.out
      have ck := RK.cell ad rfl k hlt
      have SK := hide (RK.src k hlt)
      clear RK
      obtain ⟨f, Hf⟩ : ∃ f, Hid (mergeF Z k = f) := ⟨_, rfl⟩
      have HM : Hid (mergeF Z (k + 1) = fmax f (at' (Z k))) := by show _ = _; rw [← Hf.out]; rfl
      rw [Hf.out] at HA
      have HD : Hid (Arr wr.drew w.heap.size 56 f) := HA.out
      have SD : Hid (Src wr.drew (A k) (N k) (C k) (Z k)) := SK.out
      have BD : Hid (Below w.heap.size w wr.drew) := below_drew HB.out
      have l0 := run_ld56 HD.out
      clear HA SK
      go_wp2_with fail
      go_region_with (first | (go_at_call 38; refine (meant_any _ _ _ (Z k) _ SD.out).mono ?_; rintro e w1 ⟨rfl, b1⟩; have A1 := hide (HD.out.below b1); have l1 := run_ld56 A1.out; have B1 := hide (BD.out.trans (b1.mono BD.out.size)); clear b1) | (go_at_call 45; refine (over_any _ _ _).mono ?_; rintro e w2 ⟨rfl, b2⟩; have A2 := hide (A1.out.below b2); have s2 := run_st56 (f' := fmax f (at' (Z k))) A2.out; have B2 := hide (B1.out.trans (b2.mono B1.out.size)); clear b2))
      all_goals (go_wp2_with fail)
      all_goals exact ⟨⟨k + 1, by omega, by go_num, by rw [HM.out]; exact A2.out.setRow, below_setRow B2.out (Nat.le_refl _)⟩, by simp [intOf]; omega⟩
    · obtain rfl : k = m := by omega
      have l0 := run_ld56 HA.out
      go_wp2_with fail
      refine (list_any _ _).mono ?_
      rintro e w2 ⟨ao2, n2, c2, rfl, S2, b2⟩
      have B := hide (HB.out.trans (b2.mono HB.out.size))
      have S := hide S2
      clear b2 S2
      go_wp2_with fail
      go_ret
      exact ⟨_, _, _, rfl, S.out, B.out⟩
end Go.Proofs.Ytdilejbdkhkifaa
