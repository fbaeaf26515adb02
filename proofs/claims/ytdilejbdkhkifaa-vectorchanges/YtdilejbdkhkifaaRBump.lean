/- The reference's Bump: its contract. -/
import Derived.Test.YtdilejbdkhkifaaBump
namespace Go.Proofs.Ytdilejbdkhkifaa
open Go.RowKit
attribute [local go_sem ↓] ld56_eq st56_eq ld55_eq st55_eq st29_eq
attribute [local go_sem] zeros_VC cells_VA

set_option maxHeartbeats 1600000 in
theorem refBump_any (ao : Option Addr) (n cap : Nat) (Z : List Int) (r l : Int) (w : World) (hS : Src w ao n cap Z) :
    Calls Try.prog 22 #[.slice ao n cap, .int .i64 r, .int .i64 l] w fun e w' => Gives3 w w' e (bumpZ Z r l) (bumpR Z r l) (bumpN Z r l) (bumpE Z r l) := by
  have D0 := hide (dot_new w 0 0)
  have B0 : Hid (Below w.heap.size w (w.alloc (.cells #[.int .i64 0, .int .i64 0] 29))) := (Below.refl _ _).alloc (Nat.le_refl _) _
  have HS := hide (hS.below B0.out)
  clear hS
  have sz := run_st29 D0.out 0 0
  have DZ := hide (D0.out.setRow 0 0)
  have BZ := hide (below_setRow (g := w.heap.size) (cs := #[.int .i64 0, .int .i64 0]) B0.out (Nat.le_refl _))
  obtain ⟨x, Hx⟩ : ∃ x, Hid (isR r = x) := ⟨_, rfl⟩
  cases x with
  | false =>
    have HE : Hid (bumpE Z r l = 3) := by show _ = _; unfold bumpE; rw [Hx.out]; rfl
    have HZ : Hid (bumpZ Z r l = []) := by show _ = _; unfold bumpZ; rw [HE.out]; rfl
    have HR : Hid (bumpR Z r l = 0) := by show _ = _; unfold bumpR; rw [HE.out]; rfl
    have HM : Hid (bumpN Z r l = 0) := by show _ = _; unfold bumpN; rw [HE.out]; rfl
    rw [HE.out, HZ.out, HR.out, HM.out]
    go_enter Try.func22, Try.ntmps22
    rcases isR_no Hx.out with h | h
    · go_wp2_with fail
      exact bodyPost_ret (res3 Try.results22 rfl rfl rfl DZ.out) rfl ⟨_, _, _, rfl, src_nil _, BZ.out, fun ad h => by cases h⟩
    · have h' : ¬ r < 0 := by omega
      go_wp2_with fail
      exact bodyPost_ret (res3 Try.results22 rfl rfl rfl DZ.out) rfl ⟨_, _, _, rfl, src_nil _, BZ.out, fun ad h => by cases h⟩
  | true =>
    obtain ⟨k, rfl, hk⟩ := isR_yes Hx.out
    have hbd := at'_bd Z k
    have q1 : ¬ (k : Int) < 0 := by omega
    have q2 : ¬ (16 : Int) ≤ k := by omega
    by_cases h1 : cut l ≤ at' Z k
    · have HE : Hid (bumpE Z k l = 9) := by show _ = _; unfold bumpE; rw [Hx.out, if_pos rfl, Int.toNat_natCast, if_pos h1]
      have HZ : Hid (bumpZ Z k l = []) := by show _ = _; unfold bumpZ; rw [HE.out]; rfl
      have HR : Hid (bumpR Z k l = 0) := by show _ = _; unfold bumpR; rw [HE.out]; rfl
      have HM : Hid (bumpN Z k l = 0) := by show _ = _; unfold bumpN; rw [HE.out]; rfl
      rw [HE.out, HZ.out, HR.out, HM.out]
      clear sz DZ BZ
      unfold cut at h1
      by_cases h5 : 1000000000 < l
      · rw [if_pos h5] at h1
        go_enter Try.func22, Try.ntmps22
        go_wp2_with fail
        refine (full_any ao n cap Z _ HS.out).mono ?_
        rintro e w1 ⟨rfl, b1⟩
        obtain ⟨w2, s2, a2, _, b12⟩ := fresh55 _ w1 (at' Z) b1
        have b02 := below_on2 b1 b12
        have D2 := hide (D0.out.below b02)
        have B2 := hide (B0.out.trans (b02.mono B0.out.size))
        have c2 := a2.cell k hk
        have s3 := run_st29 D2.out 0 0
        have D3 := hide (D2.out.setRow 0 0)
        have B3 := hide (below_setRow (cs := #[.int .i64 0, .int .i64 0]) B2.out (Nat.le_refl _))
        obtain ⟨y, Hy⟩ : ∃ y, Hid (at' Z k = y) := ⟨_, rfl⟩
        rw [Hy.out] at c2 hbd h1
        clear a2 b1 b12 b02 D2
        go_wp2_with fail
        exact bodyPost_ret (res3 Try.results22 rfl rfl rfl D3.out) rfl ⟨_, _, _, rfl, src_nil _, B3.out, fun ad h => by cases h⟩
      · rw [if_neg h5] at h1
        go_enter Try.func22, Try.ntmps22
        go_wp2_with fail
        refine (full_any ao n cap Z _ HS.out).mono ?_
        rintro e w1 ⟨rfl, b1⟩
        obtain ⟨w2, s2, a2, _, b12⟩ := fresh55 _ w1 (at' Z) b1
        have b02 := below_on2 b1 b12
        have D2 := hide (D0.out.below b02)
        have B2 := hide (B0.out.trans (b02.mono B0.out.size))
        have c2 := a2.cell k hk
        have s3 := run_st29 D2.out 0 0
        have D3 := hide (D2.out.setRow 0 0)
        have B3 := hide (below_setRow (cs := #[.int .i64 0, .int .i64 0]) B2.out (Nat.le_refl _))
        obtain ⟨y, Hy⟩ : ∃ y, Hid (at' Z k = y) := ⟨_, rfl⟩
        rw [Hy.out] at c2 hbd h1
        clear a2 b1 b12 b02 D2
        go_wp2_with fail
        exact bodyPost_ret (res3 Try.results22 rfl rfl rfl D3.out) rfl ⟨_, _, _, rfl, src_nil _, B3.out, fun ad h => by cases h⟩
    have HE : Hid (bumpE Z k l = 0) := by show _ = _; unfold bumpE; rw [Hx.out, if_pos rfl, Int.toNat_natCast, if_neg h1]
    have HZ : Hid (bumpZ Z k l = short (fset (at' Z) k (at' Z k + 1))) := by show _ = _; unfold bumpZ; rw [HE.out]; rfl
    have HR : Hid (bumpR Z k l = k) := by show _ = _; unfold bumpR; rw [HE.out]; rfl
    have HM : Hid (bumpN Z k l = at' Z k + 1) := by show _ = _; unfold bumpN; rw [HE.out]; rfl
    rw [HE.out, HZ.out, HR.out, HM.out]
    obtain ⟨y, Hy⟩ : ∃ y, Hid (at' Z k = y) := ⟨_, rfl⟩
    rw [Hy.out] at hbd h1 ⊢
    have hlt := cut_lt h1
    clear sz DZ BZ h1
    by_cases h5 : 1000000000 < l
    · go_enter Try.func22, Try.ntmps22
      go_wp2_with fail
      refine (full_any ao n cap Z _ HS.out).mono ?_
      rintro e w1 ⟨rfl, b1⟩
      obtain ⟨w2, s2, a2, _, b12⟩ := fresh55 _ w1 (at' Z) b1
      have b02 := below_on2 b1 b12
      have D2 := hide (D0.out.below b02)
      have lt1 : w.heap.size < w1.heap.size := by have := b1.size; simp at this; omega
      have B2 := hide (B0.out.trans (b02.mono B0.out.size))
      have c2 := a2.cell k hk
      have f2 := a2.frozen k
      rw [Hy.out] at c2
      have A3 := hide (a2.set k (y + 1))
      have D3 := hide (D2.out.setOther ⟨w1.heap.size, k, none⟩ (.int .i64 (y + 1)) (by simp; omega))
      have B3 := hide (B2.out.setCell (p := ⟨w1.heap.size, k, none⟩) (Nat.le_of_lt lt1) (.int .i64 (y + 1)))
      clear a2 b1 b12 b02 D2 B2 D0 B0 HS
      go_wp2_with fail
      obtain ⟨w3, Hw3⟩ : ∃ w3, w2.setCell ⟨w1.heap.size, k, none⟩ (.int .i64 (y + 1)) = w3 := ⟨_, rfl⟩
      rw [Hw3] at A3 D3 B3 ⊢
      clear Hw3
      have A3d : Hid (Arr w3.drew w1.heap.size 55 (fset (at' Z) k (y + 1))) := A3.out
      have D3d : Hid (DotAt w3.drew w.heap.size 0 0) := D3.out
      have B3d : Hid (Below w.heap.size w w3.drew) := below_drew B3.out
      have l3 := run_ld55 A3d.out
      have c3 := A3d.out.cell k hk
      rw [show fset (at' Z) k (y + 1) k = y + 1 from by simp [fset]] at c3
      go_region_with (go_at_call 40; refine (short_new _ _).mono ?_; rintro e w4 ⟨a4, n4, q4, rfl, S, b, F⟩; have A4 := hide (A3d.out.below b); have D4 := hide (D3d.out.below b); have B4 := hide (B3d.out.trans (b.mono B3d.out.size)); have S4 := hide S; have F4 := hide F; have c4 := A4.out.cell k hk; rw [show fset (at' Z) k (y + 1) k = y + 1 from by simp [fset]] at c4; have s4 := run_st29 D4.out k (y + 1); clear b S F)
      all_goals (go_wp2_with fail)
      all_goals exact bodyPost_ret (res3 Try.results22 rfl rfl rfl (D4.out.setRow k (y + 1))) rfl ⟨_, _, _, rfl, S4.out.setRow (fun ad h => by have h1 := F4.out ad h; have h2 := D3d.out.lt; omega), below_setRow B4.out (Nat.le_refl _), fun ad h => by have h1 := F4.out ad h; have h2 := B3d.out.size; omega⟩
    · go_enter Try.func22, Try.ntmps22
      go_wp2_with fail
      refine (full_any ao n cap Z _ HS.out).mono ?_
      rintro e w1 ⟨rfl, b1⟩
      obtain ⟨w2, s2, a2, _, b12⟩ := fresh55 _ w1 (at' Z) b1
      have b02 := below_on2 b1 b12
      have D2 := hide (D0.out.below b02)
      have lt1 : w.heap.size < w1.heap.size := by have := b1.size; simp at this; omega
      have B2 := hide (B0.out.trans (b02.mono B0.out.size))
      have c2 := a2.cell k hk
      have f2 := a2.frozen k
      rw [Hy.out] at c2
      have A3 := hide (a2.set k (y + 1))
      have D3 := hide (D2.out.setOther ⟨w1.heap.size, k, none⟩ (.int .i64 (y + 1)) (by simp; omega))
      have B3 := hide (B2.out.setCell (p := ⟨w1.heap.size, k, none⟩) (Nat.le_of_lt lt1) (.int .i64 (y + 1)))
      clear a2 b1 b12 b02 D2 B2 D0 B0 HS
      go_wp2_with fail
      obtain ⟨w3, Hw3⟩ : ∃ w3, w2.setCell ⟨w1.heap.size, k, none⟩ (.int .i64 (y + 1)) = w3 := ⟨_, rfl⟩
      rw [Hw3] at A3 D3 B3 ⊢
      clear Hw3
      have A3d : Hid (Arr w3.drew w1.heap.size 55 (fset (at' Z) k (y + 1))) := A3.out
      have D3d : Hid (DotAt w3.drew w.heap.size 0 0) := D3.out
      have B3d : Hid (Below w.heap.size w w3.drew) := below_drew B3.out
      have l3 := run_ld55 A3d.out
      have c3 := A3d.out.cell k hk
      rw [show fset (at' Z) k (y + 1) k = y + 1 from by simp [fset]] at c3
      go_region_with (go_at_call 40; refine (short_new _ _).mono ?_; rintro e w4 ⟨a4, n4, q4, rfl, S, b, F⟩; have A4 := hide (A3d.out.below b); have D4 := hide (D3d.out.below b); have B4 := hide (B3d.out.trans (b.mono B3d.out.size)); have S4 := hide S; have F4 := hide F; have c4 := A4.out.cell k hk; rw [show fset (at' Z) k (y + 1) k = y + 1 from by simp [fset]] at c4; have s4 := run_st29 D4.out k (y + 1); clear b S F)
      all_goals (go_wp2_with fail)
      all_goals exact bodyPost_ret (res3 Try.results22 rfl rfl rfl (D4.out.setRow k (y + 1))) rfl ⟨_, _, _, rfl, S4.out.setRow (fun ad h => by have h1 := F4.out ad h; have h2 := D3d.out.lt; omega), below_setRow B4.out (Nat.le_refl _), fun ad h => by have h1 := F4.out ad h; have h2 := B3d.out.size; omega⟩
end Go.Proofs.Ytdilejbdkhkifaa
