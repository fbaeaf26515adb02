/- Bump and the reference's Bump: their contracts. -/
import Derived.Test.YtdilejbdkhkifabDot
namespace Go.Proofs.Ytdilejbdkhkifab
open Go.RowKit
attribute [local go_sem ↓] ld56_eq st56_eq st29_eq
attribute [local go_sem] zeros_VC cells_VA

/-- the lesser of the limit and 1000000000 -/
def cut (l : Int) : Int := if 1000000000 < l then 1000000000 else l
def bumpE (Z : List Int) (r l : Int) : Int := if isR r = true then (if cut l ≤ at' Z r.toNat then 9 else 0) else 3
def bumpZ (Z : List Int) (r l : Int) : List Int := if bumpE Z r l = 0 then short (fset (at' Z) r.toNat (at' Z r.toNat + 1)) else []
def bumpR (Z : List Int) (r l : Int) : Int := if bumpE Z r l = 0 then r else 0
def bumpN (Z : List Int) (r l : Int) : Int := if bumpE Z r l = 0 then at' Z r.toNat + 1 else 0
/-- a list, a dot and an error are handed back -/
def Gives3 (w w' : World) (e : Ending) (Z : List Int) (R M E : Int) : Prop := ∃ ao n c, e = .returned (.tuple #[.slice ao n c, .agg #[.int .i64 R, .int .i64 M], .int .i64 E]) ∧ Src w' ao n c Z ∧ Below w.heap.size w w' ∧ ∀ ad, ao = some ad → w.heap.size ≤ ad.block

theorem Src.setRow {w : World} {ao : Option Addr} {n c : Nat} {Z : List Int} {g : Nat} {cs : Array Value} (h : Src w ao n c Z) (hne : ∀ ad, ao = some ad → ad.block ≠ g) : Src (w.setRow g cs) ao n c Z :=
  ⟨h.1, h.2.1, fun ad ha t ht => by
    rw [cell_setRow_other]
    · exact h.2.2 ad ha t ht
    · have e : (ad.add t).block = ad.block := by unfold Addr.add; split <;> rfl
      rw [e]; exact hne ad ha⟩
theorem cut_lt {l y : Int} (h : ¬ cut l ≤ y) : y < l ∧ y < 1000000000 := by unfold cut at h; split at h <;> omega

set_option maxHeartbeats 1600000 in
theorem bump_any (ao : Option Addr) (n cap : Nat) (Z : List Int) (r l : Int) (w : World) (hS : Src w ao n cap Z) :
    Calls Try.prog 15 #[.slice ao n cap, .int .i64 r, .int .i64 l] w fun e w' => Gives3 w w' e (bumpZ Z r l) (bumpR Z r l) (bumpN Z r l) (bumpE Z r l) := by
  have D0 := hide (dot_new w 0 0)
  have B0 : Hid (Below w.heap.size w (w.alloc (.cells #[.int .i64 0, .int .i64 0] 31))) := (Below.refl _ _).alloc (Nat.le_refl _) _
  have HS := hide (hS.below B0.out)
  clear hS
  have sz := run_st29 D0.out 0 0
  have DZ := hide (D0.out.setRow 0 0)
  have BZ := hide (below_setRow (g := w.heap.size) (cs := #[.int .i64 0, .int .i64 0]) B0.out (Nat.le_refl _))
  obtain ⟨x, Hx⟩ : ∃ x, Hid (isR r = x) := ⟨_, rfl⟩
  cases x with
  | false =>
    have HE : Hid (bumpE Z r l = 3) := by show _ = _; unfold bumpE; rw [Hx.out]; rfl
    have HZ : Hid (bumpZ Z r l = []) := by show _ = _; unfold bumpZ; rw [HE.out]; rfl
    have HR : Hid (bumpR Z r l = 0) := by show _ = _; unfold bumpR; rw [HE.out]; rfl
    have HM : Hid (bumpN Z r l = 0) := by show _ = _; unfold bumpN; rw [HE.out]; rfl
    rw [HE.out, HZ.out, HR.out, HM.out]
    go_enter Try.func15, Try.ntmps15
    go_wp2_with (go_at_call 26; refine (isRep_any r _).mono ?_; rintro e w' ⟨rfl, rfl⟩; rw [Hx.out])
    exact bodyPost_ret (res3 Try.results15 rfl rfl rfl DZ.out) rfl ⟨_, _, _, rfl, src_nil _, BZ.out, fun ad h => by cases h⟩
  | true =>
    obtain ⟨k, rfl, hk⟩ := isR_yes Hx.out
    have hbd := at'_bd Z k
    by_cases h1 : cut l ≤ at' Z k
    · have HE : Hid (bumpE Z k l = 9) := by show _ = _; unfold bumpE; rw [Hx.out, if_pos rfl, Int.toNat_natCast, if_pos h1]
      have HZ : Hid (bumpZ Z k l = []) := by show _ = _; unfold bumpZ; rw [HE.out]; rfl
      have HR : Hid (bumpR Z k l = 0) := by show _ = _; unfold bumpR; rw [HE.out]; rfl
      have HM : Hid (bumpN Z k l = 0) := by show _ = _; unfold bumpN; rw [HE.out]; rfl
      rw [HE.out, HZ.out, HR.out, HM.out]
      clear sz DZ BZ
      go_enter Try.func15, Try.ntmps15
      go_wp2_with (go_at_call 26; refine (isRep_any k _).mono ?_; rintro e w' ⟨rfl, rfl⟩; rw [Hx.out])
      refine (meant_any ao n cap Z _ HS.out).mono ?_
      rintro e w1 ⟨rfl, b1⟩
      obtain ⟨w2, s2, a2, _, b12⟩ := fresh56 _ w1 (at' Z) b1
      have b02 := below_on2 b1 b12
      have D2 := hide (D0.out.below b02)
      have B2 := hide (B0.out.trans (b02.mono B0.out.size))
      have c2 := a2.cell k hk
      have s3 := run_st29 D2.out 0 0
      have D3 := hide (D2.out.setRow 0 0)
      have B3 := hide (below_setRow (cs := #[.int .i64 0, .int .i64 0]) B2.out (Nat.le_refl _))
      obtain ⟨y, Hy⟩ : ∃ y, Hid (at' Z k = y) := ⟨_, rfl⟩
      rw [Hy.out] at c2 hbd h1
      clear a2 b1 b12 b02 D2
      unfold cut at h1
      by_cases h5 : 1000000000 < l
      · rw [if_pos h5] at h1
        go_wp2_with fail
        exact bodyPost_ret (res3 Try.results15 rfl rfl rfl D3.out) rfl ⟨_, _, _, rfl, src_nil _, B3.out, fun ad h => by cases h⟩
      · rw [if_neg h5] at h1
        go_wp2_with fail
        exact bodyPost_ret (res3 Try.results15 rfl rfl rfl D3.out) rfl ⟨_, _, _, rfl, src_nil _, B3.out, fun ad h => by cases h⟩
    have HE : Hid (bumpE Z k l = 0) := by show _ = _; unfold bumpE; rw [Hx.out, if_pos rfl, Int.toNat_natCast, if_neg h1]
    have HZ : Hid (bumpZ Z k l = short (fset (at' Z) k (at' Z k + 1))) := by show _ = _; unfold bumpZ; rw [HE.out]; rfl
    have HR : Hid (bumpR Z k l = k) := by show _ = _; unfold bumpR; rw [HE.out]; rfl
    have HM : Hid (bumpN Z k l = at' Z k + 1) := by show _ = _; unfold bumpN; rw [HE.out]; rfl
    rw [HE.out, HZ.out, HR.out, HM.out]
    obtain ⟨y, Hy⟩ : ∃ y, Hid (at' Z k = y) := ⟨_, rfl⟩
    rw [Hy.out] at hbd h1 ⊢
    have hlt := cut_lt h1
    clear sz DZ BZ h1
    go_enter Try.func15, Try.ntmps15
    go_wp2_with (go_at_call 26; refine (isRep_any k _).mono ?_; rintro e w' ⟨rfl, rfl⟩; rw [Hx.out])
    refine (meant_any ao n cap Z _ HS.out).mono ?_
    rintro e w1 ⟨rfl, b1⟩
    obtain ⟨w2, s2, a2, _, b12⟩ := fresh56 _ w1 (at' Z) b1
    have b02 := below_on2 b1 b12
    have D2 := hide (D0.out.below b02)
    have lt1 : w.heap.size < w1.heap.size := by have := b1.size; simp at this; omega
    have B2 := hide (B0.out.trans (b02.mono B0.out.size))
    have c2 := a2.cell k hk
    have f2 := a2.frozen k
    rw [Hy.out] at c2
    have A3 := hide (a2.set k (y + 1))
    have D3 := hide (D2.out.setOther ⟨w1.heap.size, k, none⟩ (.int .i64 (y + 1)) (by simp; omega))
    have B3 := hide (B2.out.setCell (p := ⟨w1.heap.size, k, none⟩) (Nat.le_of_lt lt1) (.int .i64 (y + 1)))
    clear a2 b1 b12 b02 D2 B2 D0 B0 HS
    by_cases h5 : 1000000000 < l
    · go_wp2_with fail
      obtain ⟨w3, Hw3⟩ : ∃ w3, w2.setCell ⟨w1.heap.size, k, none⟩ (.int .i64 (y + 1)) = w3 := ⟨_, rfl⟩
      rw [Hw3] at A3 D3 B3 ⊢
      clear Hw3
      have A3d : Hid (Arr w3.drew w1.heap.size 43 (fset (at' Z) k (y + 1))) := A3.out
      have D3d : Hid (DotAt w3.drew w.heap.size 0 0) := D3.out
      have B3d : Hid (Below w.heap.size w w3.drew) := below_drew B3.out
      have l3 := run_ld56 A3d.out
      have c3 := A3d.out.cell k hk
      rw [show fset (at' Z) k (y + 1) k = y + 1 from by simp [fset]] at c3
      go_region_with (go_at_call 22; refine (list_new _ _).mono ?_; rintro e w4 ⟨a4, n4, q4, rfl, S, b, F⟩; have A4 := hide (A3d.out.below b); have D4 := hide (D3d.out.below b); have B4 := hide (B3d.out.trans (b.mono B3d.out.size)); have S4 := hide S; have F4 := hide F; have c4 := A4.out.cell k hk; rw [show fset (at' Z) k (y + 1) k = y + 1 from by simp [fset]] at c4; have s4 := run_st29 D4.out k (y + 1); clear b S F)
      all_goals (go_wp2_with fail)
      all_goals exact bodyPost_ret (res3 Try.results15 rfl rfl rfl (D4.out.setRow k (y + 1))) rfl ⟨_, _, _, rfl, S4.out.setRow (fun ad h => by have h1 := F4.out ad h; have h2 := D3d.out.lt; omega), below_setRow B4.out (Nat.le_refl _), fun ad h => by have h1 := F4.out ad h; have h2 := B3d.out.size; omega⟩
    · go_wp2_with fail
      obtain ⟨w3, Hw3⟩ : ∃ w3, w2.setCell ⟨w1.heap.size, k, none⟩ (.int .i64 (y + 1)) = w3 := ⟨_, rfl⟩
      rw [Hw3] at A3 D3 B3 ⊢
      clear Hw3
      have A3d : Hid (Arr w3.drew w1.heap.size 43 (fset (at' Z) k (y + 1))) := A3.out
      have D3d : Hid (DotAt w3.drew w.heap.size 0 0) := D3.out
      have B3d : Hid (Below w.heap.size w w3.drew) := below_drew B3.out
      have l3 := run_ld56 A3d.out
      have c3 := A3d.out.cell k hk
      rw [show fset (at' Z) k (y + 1) k = y + 1 from by simp [fset]] at c3
      go_region_with (go_at_call 22; refine (list_new _ _).mono ?_; rintro e w4 ⟨a4, n4, q4, rfl, S, b, F⟩; have A4 := hide (A3d.out.below b); have D4 := hide (D3d.out.below b); have B4 := hide (B3d.out.trans (b.mono B3d.out.size)); have S4 := hide S; have F4 := hide F; have c4 := A4.out.cell k hk; rw [show fset (at' Z) k (y + 1) k = y + 1 from by simp [fset]] at c4; have s4 := run_st29 D4.out k (y + 1); clear b S F)
      all_goals (go_wp2_with fail)
      all_goals exact bodyPost_ret (res3 Try.results15 rfl rfl rfl (D4.out.setRow k (y + 1))) rfl ⟨_, _, _, rfl, S4.out.setRow (fun ad h => by have h1 := F4.out ad h; have h2 := D3d.out.lt; omega), below_setRow B4.out (Nat.le_refl _), fun ad h => by have h1 := F4.out ad h; have h2 := B3d.out.size; omega⟩
end Go.Proofs.Ytdilejbdkhkifab
