/- Compare: its contract. -/
import Derived.Test.YtllogonbickmcaaDoorCNat
namespace Go.Proofs.YtllogonbickmcaaDoor
open Go.RowKit

theorem below_drewN (B : Nat) (w : World) (n : Nat) : Below B w (w.drewN n) := ⟨rfl, rfl, rfl, Nat.le_refl _, fun _ _ => rfl⟩
theorem ends (x y : List UInt8) (h : x.length = 0 ∨ y.length = 0) : lexC cmpP (pieces x) (pieces y) = sgn x.length y.length := by
  by_cases hx : x.length = 0
  · have ex : x = [] := List.eq_nil_of_length_eq_zero hx
    subst ex
    by_cases hy : y.length = 0
    · have ey : y = [] := List.eq_nil_of_length_eq_zero hy
      subst ey; rfl
    · rw [pieces_cons y (by omega), pieces_nil]
      show (-1 : Int) = _
      unfold sgn; rw [if_pos (by simp; omega)]
  · have hy : y.length = 0 := h.resolve_left hx
    have ey : y = [] := List.eq_nil_of_length_eq_zero hy
    subst ey
    rw [pieces_cons x (by omega), pieces_nil]
    show (1 : Int) = _
    unfold sgn; rw [if_neg (by simp), if_pos (by simp; omega)]

theorem fp_facts (x P : ByteArray) (h : 0 < x.size) (hP : x.extract 0 (fpN x.data.toList) = P) : 1 ≤ P.size ∧ P.size ≤ x.size ∧ P.size = fpN x.data.toList ∧ P.data.toList = x.data.toList.take (fpN x.data.toList) ∧ (x.extract P.size x.size).data.toList = x.data.toList.drop (fpN x.data.toList) := by
  have f1 := fpN_le x.data.toList (by rw [len_at]; exact h)
  have f2 := fpN_pos x.data.toList
  rw [len_at] at f1
  have hl : P.data.toList = x.data.toList.take (fpN x.data.toList) := by rw [← hP, Lib.extract_data, List.drop_zero, Nat.sub_zero]
  have hs : P.size = fpN x.data.toList := by
    rw [← len_at, hl, List.length_take, len_at]; omega
  refine ⟨by omega, by omega, hs, hl, ?_⟩
  rw [Lib.extract_data, hs, List.take_of_length_le]
  rw [List.length_drop, len_at]; omega
theorem step_lex (x y P Q : ByteArray) (hx : 0 < x.size) (hy : 0 < y.size) (hP : x.extract 0 (fpN x.data.toList) = P) (hQ : y.extract 0 (fpN y.data.toList) = Q) :
    lexC cmpP (pieces x.data.toList) (pieces y.data.toList) = if cmpP P.data.toList Q.data.toList = 0 then lexC cmpP (pieces (x.extract P.size x.size).data.toList) (pieces (y.extract Q.size y.size).data.toList) else cmpP P.data.toList Q.data.toList := by
  obtain ⟨_, _, _, p4, p5⟩ := fp_facts x P hx hP
  obtain ⟨_, _, _, q4, q5⟩ := fp_facts y Q hy hQ
  rw [pieces_cons x.data.toList (by rw [len_at]; exact hx), pieces_cons y.data.toList (by rw [len_at]; exact hy), p5, q5, p4, q4]
  rfl

/-- nothing but draws -/
def Drew (w w' : World) : Prop := ∃ q, w' = w.drewN q
theorem Drew.refl (w : World) : Drew w w := ⟨0, rfl⟩
theorem Drew.on {w w' : World} (h : Drew w w') (n : Nat) : Drew w (w'.drewN n) := by
  obtain ⟨q, rfl⟩ := h
  exact ⟨q + n, World.drewN_drewN _ _ _⟩
theorem Drew.below {w w' : World} (h : Drew w w') (B : Nat) : Below B w w' := by
  obtain ⟨q, rfl⟩ := h
  exact below_drewN _ _ _
set_option maxRecDepth 100000 in
set_option maxHeartbeats 4000000 in
theorem compare_dr (a b : ByteArray) (w : World) (ha : a.size ≤ maxLen) (hb : b.size ≤ maxLen) : Calls Tryd.prog 8 #[.string a, .string b] w fun e w' => e = .returned (.int .i64 (cmpF a.data.toList b.data.toList)) ∧ Drew w w' := by
  have HAM := hide ha
  have HBM := hide hb
  unfold maxLen at ha hb
  have HF : Hid (cmpF a.data.toList b.data.toList = if lexC cmpP (pieces a.data.toList) (pieces b.data.toList) = 0 then textC a.data.toList b.data.toList else lexC cmpP (pieces a.data.toList) (pieces b.data.toList)) := rfl
  go_enter Tryd.func8, Tryd.ntmps8
  go_wp2
  go_loopw [5, 6] (fun v u wr => ∃ x y : ByteArray, x.size ≤ a.size ∧ y.size ≤ b.size ∧ v = .string x ∧ u = .string y ∧ Hid (lexC cmpP (pieces x.data.toList) (pieces y.data.toList) = lexC cmpP (pieces a.data.toList) (pieces b.data.toList)) ∧ Drew w wr) (fun v _ _ => lenOf v)
  case atStart => exact ⟨a, b, Nat.le_refl _, Nat.le_refl _, rfl, rfl, rfl, Drew.refl _⟩
  case round =>
    obtain ⟨x, y, hxa, hyb, rfl, rfl, HL, hw⟩ := hrel
    by_cases hx : x.size = 0
    · have hxe := empty_yes x hx
      have HE : Hid (lexC cmpP (pieces a.data.toList) (pieces b.data.toList) = sgn x.size y.size) := by
        show _ = _
        rw [← HL.out, ends _ _ (Or.inl (by rw [len_at]; exact hx)), len_at, len_at]
      clear hx
      obtain ⟨c, hc⟩ : ∃ c, sgn x.size y.size = c := ⟨_, rfl⟩
      rw [hc] at HE
      have HK := hide (cmpInt_any x.size y.size)
      rw [hc] at HK
      clear hc
      by_cases hc0 : c = 0
      · subst hc0
        have HR : Hid (textC a.data.toList b.data.toList = cmpF a.data.toList b.data.toList) := by show _ = _; rw [HF.out, HE.out, if_pos rfl]
        go_wp2_with (first | (go_at_call 15; refine (HK.out _).mono ?_; rintro e w' ⟨rfl, rfl⟩) | (go_at_call 16; refine (cmpStr_any a b _).mono ?_; rintro e w' ⟨rfl, rfl⟩))
        go_ret
        exact ⟨ret_int HR.out, hw⟩
      · have HR : Hid (c = cmpF a.data.toList b.data.toList) := by show _ = _; rw [HF.out, HE.out, if_neg hc0]
        have hc1 : (c == 0) = false := by simpa using hc0
        have hc2 : (c != 0) = true := by rw [bne, hc1]; rfl
        clear hc0
        go_wp2_with (go_at_call 15; refine (HK.out _).mono ?_; rintro e w' ⟨rfl, rfl⟩)
        go_ret
        exact ⟨ret_int HR.out, hw⟩
    · have hxe := empty_no x hx
      by_cases hy : y.size = 0
      · have hye := empty_yes y hy
        have HE : Hid (lexC cmpP (pieces a.data.toList) (pieces b.data.toList) = sgn x.size y.size) := by
          show _ = _
          rw [← HL.out, ends _ _ (Or.inr (by rw [len_at]; exact hy)), len_at, len_at]
        clear hx hy
        obtain ⟨c, hc⟩ : ∃ c, sgn x.size y.size = c := ⟨_, rfl⟩
        rw [hc] at HE
        have HK := hide (cmpInt_any x.size y.size)
        rw [hc] at HK
        clear hc
        by_cases hc0 : c = 0
        · subst hc0
          have HR : Hid (textC a.data.toList b.data.toList = cmpF a.data.toList b.data.toList) := by show _ = _; rw [HF.out, HE.out, if_pos rfl]
          go_wp2_with (first | (go_at_call 15; refine (HK.out _).mono ?_; rintro e w' ⟨rfl, rfl⟩) | (go_at_call 16; refine (cmpStr_any a b _).mono ?_; rintro e w' ⟨rfl, rfl⟩))
          go_ret
          exact ⟨ret_int HR.out, hw⟩
        · have HR : Hid (c = cmpF a.data.toList b.data.toList) := by show _ = _; rw [HF.out, HE.out, if_neg hc0]
          have hc1 : (c == 0) = false := by simpa using hc0
          have hc2 : (c != 0) = true := by rw [bne, hc1]; rfl
          clear hc0
          go_wp2_with (go_at_call 15; refine (HK.out _).mono ?_; rintro e w' ⟨rfl, rfl⟩)
          go_ret
          exact ⟨ret_int HR.out, hw⟩
      · have hye := empty_no y hy
        have HXM : Hid (x.size ≤ maxLen) := by show _ ≤ _; have := HAM.out; omega
        have HYM : Hid (y.size ≤ maxLen) := by show _ ≤ _; have := HBM.out; omega
        obtain ⟨P, HP⟩ : ∃ P, Hid (x.extract 0 (fpN x.data.toList) = P) := ⟨_, rfl⟩
        obtain ⟨Q, HQ⟩ : ∃ Q, Hid (y.extract 0 (fpN y.data.toList) = Q) := ⟨_, rfl⟩
        obtain ⟨hP1, hP2, -⟩ := fp_facts x P (by omega) HP.out
        obtain ⟨hQ1, hQ2, -⟩ := fp_facts y Q (by omega) HQ.out
        have HST := hide (step_lex x y P Q (by omega) (by omega) HP.out HQ.out)
        rw [HL.out] at HST
        have HPM : Hid (P.size ≤ maxLen) := by show _ ≤ _; have := HXM.out; omega
        have HQM : Hid (Q.size ≤ maxLen) := by show _ ≤ _; have := HYM.out; omega
        have HX0 : Hid (0 < x.size) := by show _ < _; omega
        have HY0 : Hid (0 < y.size) := by show _ < _; omega
        clear hx hy HL
        go_wp2_with fail
        refine (firstPiece_any x _ HXM.out HX0.out).mono ?_
        rintro e w' ⟨rfl, rfl⟩
        rw [HP.out]
        go_wp2_with fail
        refine (firstPiece_any y _ HYM.out HY0.out).mono ?_
        rintro e w' ⟨rfl, rfl⟩
        rw [HQ.out]
        go_wp2_with fail
        refine (comparePieces_any P Q _ HPM.out HQM.out hP1 hQ1).mono ?_
        rintro e w3 ⟨rfl, nd, rfl⟩
        obtain ⟨c, hc⟩ : ∃ c, cmpP P.data.toList Q.data.toList = c := ⟨_, rfl⟩
        rw [hc] at HST ⊢
        clear hc
        by_cases hc0 : c = 0
        · subst hc0
          rw [if_pos rfl] at HST
          go_wp2
          go_quiet (fail)
          go_wp2
          go_roundw
          case rel => exact ⟨x.extract P.size x.size, y.extract Q.size y.size, by simp; omega, by simp; omega, rfl, rfl, HST.out.symm, (hw.on _).on _⟩
          case measure => simp [lenOf]; omega
        · rw [if_neg hc0] at HST
          have hc1 : (c == 0) = false := by simpa using hc0
          have hc2 : (c != 0) = true := by rw [bne, hc1]; rfl
          have HR : Hid (c = cmpF a.data.toList b.data.toList) := by show _ = _; rw [HF.out, HST.out, if_neg hc0]
          clear hc0
          go_wp2
          go_ret
          exact ⟨ret_int HR.out, hw.on _⟩
theorem compare_any (a b : ByteArray) (w : World) (ha : a.size ≤ maxLen) (hb : b.size ≤ maxLen) : Calls Tryd.prog 8 #[.string a, .string b] w fun e w' => e = .returned (.int .i64 (cmpF a.data.toList b.data.toList)) ∧ Below w.heap.size w w' :=
  (compare_dr a b w ha hb).mono fun _ _ ⟨h, d⟩ => ⟨h, d.below _⟩
end Go.Proofs.YtllogonbickmcaaDoor
