/- the reference's Pairs. -/
import Derived.Test.YtinicdnpkihbkaaEPa
namespace Go.Proofs.Ytinicdnpkihbkaa
open Go.RowKit
attribute [local go_sem ↓] ldQ_eq stQ_eq
variable {w w' w2 : World} {g : Nat}

/-- a row of the reference's pairs that grows -/
structure GrQ (w wr : World) (ao : Option Addr) (m c : Nat) (L : List Qr) : Prop where
  r : QR wr ao m c L
  a : NewB w wr ao
theorem QR.lit (w : World) : QR (w.alloc (.cells #[] 50)) (some ⟨w.heap.size, 0, none⟩) 0 0 [] :=
  ⟨by simp [qcs], .inr ⟨w.heap.size, 0, _, rfl, Nat.zero_le _, heap_alloc_new w _, Nat.le_refl _, by unfold maxLen; omega, by simp, by simp [qcs]⟩⟩
theorem GrQ.lit (w : World) : GrQ w (w.alloc (.cells #[] 50)) (some ⟨w.heap.size, 0, none⟩) 0 0 [] :=
  ⟨QR.lit w, below_new w _, fun _ hk => Nat.le_of_eq (Option.some.inj hk)⟩
theorem NewB.ap {wr w2 : World} {ao bo : Option Addr} (h : NewB w wr ao) (a : Ap wr w2 ao bo) : NewB w w2 bo := by
  refine ⟨⟨a.grown.os.trans h.1.os, a.grown.tape.trans h.1.tape, a.grown.output.trans h.1.output, Nat.le_trans h.1.size a.grown.size, fun k hk => ?_⟩, fun k hk => ?_⟩
  · refine (a.grown.block k (Nat.lt_of_lt_of_le hk h.1.size) (fun e => ?_)).trans (h.1.block k hk)
    have := h.2 k e.symm
    omega
  · rcases a.lies with e | ⟨j, e, hj⟩
    · exact h.2 k (by rw [← e]; exact hk)
    · rw [e] at hk
      have := Option.some.inj hk
      have := h.1.size
      omega
theorem NewB.below {wr w2 : World} {ao : Option Addr} (h : NewB w wr ao) (hb : Below wr.heap.size wr w2) : NewB w w2 ao := ⟨h.1.trans (hb.mono h.1.size), h.2⟩
theorem GrQ.below {wr w2 : World} {ao : Option Addr} {m c : Nat} {L : List Qr} (h : GrQ w wr ao m c L) (hb : Below wr.heap.size wr w2) : GrQ w w2 ao m c L := ⟨h.r.below hb, h.a.below hb⟩
theorem GrQ.app {wr w2 : World} {ao bo : Option Addr} {m c c2 k : Nat} {L M : List Qr} (h : GrQ w wr ao m c L) (hr : QR w2 bo (m + k) c2 (L ++ M)) (ha : Ap wr w2 ao bo) : GrQ w w2 bo (m + k) c2 (L ++ M) := ⟨hr, h.a.ap ha⟩
set_option maxRecDepth 100000 in
theorem refPairs_any (r : Int) (w : World) : Calls Try.prog 8 #[.int .i64 r] w fun e w' =>
    ∃ bo m c, e = .returned (.slice bo m c) ∧ QR w' bo m c (refP (clN r) 256) ∧ NewB w w' bo := by
  have HC := hide (reps_any r)
  have hn := (clN_le r).2
  obtain ⟨n, hnn⟩ : ∃ n, clN r = n := ⟨_, rfl⟩
  rw [hnn] at HC hn ⊢
  clear hnn
  go_enter Try.func8, Try.ntmps8
  go_wp2_with (go_at_call 21; refine (HC.out _).mono ?_; rintro e w2 ⟨rfl, rfl⟩)
  go_loopw [4, 5] (fun p i wr => ∃ (k : Nat) (ao : Option Addr) (m c : Nat), k ≤ 256 ∧ i = .int .i64 k ∧ p = .slice ao m c ∧ Hid (GrQ w wr ao m c (refP n k))) (fun _ i _ => 256 - (intOf i).toNat)
  case atStart => exact ⟨0, _, 0, 0, Nat.zero_le _, rfl, rfl, GrQ.lit w⟩
  case round =>
    obtain ⟨k, ao, m, c, hk, rfl, rfl, HG⟩ := hrel
    by_cases hlt : k < 256
    · obtain ⟨a, ha⟩ : ∃ a, (k : Int) / 16 = a := ⟨_, rfl⟩
      obtain ⟨b, hb⟩ : ∃ b, (k : Int) % 16 = b := ⟨_, rfl⟩
      have HS : Hid (refP n (k + 1) = if goodB n a b = true then refP n k ++ [⟨a, b⟩] else refP n k) := by show _ = _; rw [refP, ha, hb]
      have hlt' : (k : Int) < 256 := by omega
      obtain ⟨w3, hst, hbx, hbl, _⟩ := madeQ wr ⟨a, b⟩ wr.heap.size rfl
      have hst' : (stQ (.pointer (some ⟨wr.heap.size, 0, none⟩)) (.agg #[.int .i64 a, .int .i64 b])).run Try.prog (wr.alloc (.cells #[.int .i64 0, .int .i64 0] 50)) = .ok () w3 := hst
      have hld : (ldQ (.pointer (some ⟨wr.heap.size, 0, none⟩))).run Try.prog w3 = .ok (.agg #[.int .i64 a, .int .i64 b]) w3 := run_ldQ hbx
      have HG3 := hide (HG.out.below hbl)
      have HX := hide hbx
      clear hst hbx hbl HG
      by_cases hg : goodB n a b = true
      · have HS1 : Hid (refP n (k + 1) = refP n k ++ [⟨a, b⟩]) := by show _ = _; rw [HS.out, if_pos hg]
        have HGo : Hid (∀ w, Calls Try.prog 22 #[.int .i64 n, .agg #[.int .i64 a, .int .i64 b]] w fun e w' => e = .returned (.bool true) ∧ Below w.heap.size w w') := fun w => by have := good_any n a b w; rw [hg] at this; exact this
        clear hg HS
        go_wp2_with (first | (go_at_call 22; refine (HGo.out _).mono ?_; rintro e w4 ⟨rfl, b4⟩; have HG4 := hide (HG3.out.below b4); have hld4 : (ldQ (.pointer (some ⟨wr.heap.size, 0, none⟩))).run Try.prog w4 = .ok (.agg #[.int .i64 a, .int .i64 b]) w4 := run_ldQ (HX.out.below b4); clear b4 HG3; have HM : Hid (m + 1 ≤ 8796093022108) := (by show _ ≤ _; have h1 := HG4.out.r.len; have h2 := refP_len n k; omega); have HR4 := hide HG4.out.r) | (at_builtin; refine HR4.out.app (L := [⟨a, b⟩]) (m := 1) rfl (qcs_lit _ _) HM.out rfl (.tmp 22) (.tmp 24) rfl rfl rfl ?_; intro bo c2 w5 R5 A5; have HG5 := hide (HG4.out.app R5 A5); clear R5 A5))
        go_roundw
        case rel => exact ⟨k + 1, bo, m + 1, c2, by omega, by go_num, rfl, by show GrQ _ _ _ _ _ _; rw [HS1.out]; exact HG5.out⟩
        case measure => simp [intOf]; omega
      · have HS1 : Hid (refP n (k + 1) = refP n k) := by show _ = _; rw [HS.out, if_neg hg]
        have HGo : Hid (∀ w, Calls Try.prog 22 #[.int .i64 n, .agg #[.int .i64 a, .int .i64 b]] w fun e w' => e = .returned (.bool false) ∧ Below w.heap.size w w') := fun w => by have := good_any n a b w; rw [Bool.not_eq_true _ |>.mp hg] at this; exact this
        clear hg HS
        go_wp2_with (go_at_call 22; refine (HGo.out _).mono ?_; rintro e w4 ⟨rfl, b4⟩; have HG4 := hide (HG3.out.below b4); clear b4 HG3)
        go_roundw
        case rel => exact ⟨k + 1, ao, m, c, by omega, by go_num, rfl, by show GrQ _ _ _ _ _ _; rw [HS1.out]; exact HG4.out⟩
        case measure => simp [intOf]; omega
    · obtain rfl : k = 256 := by omega
      go_wp2_with fail
      go_ret
      exact ⟨_, _, _, rfl, HG.out.r, HG.out.a⟩
end Go.Proofs.Ytinicdnpkihbkaa
