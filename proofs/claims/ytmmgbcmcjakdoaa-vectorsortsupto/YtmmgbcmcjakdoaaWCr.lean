/- The reference's Compare: its contract. -/
import Derived.Test.YtmmgbcmcjakdoaaWRn
namespace Go.Proofs.Ytmmgbcmcjakdoaa
open Go.RowKit V
attribute [local go_sem ↓] ld55_eq st55_eq
attribute [local go_sem] zeros_VC cells_VA

/-- j numbers from the k-th on -/
def lexF (f g : Nat → Int) : Nat → Nat → Int
  | 0, _ => 0
  | j + 1, k => if cmpI (f k) (g k) = 0 then lexF f g j (k + 1) else cmpI (f k) (g k)
def compF (f g : Nat → Int) : Int := if cmpI (sumN f 16) (sumN g 16) = 0 then lexF f g 16 0 else cmpI (sumN f 16) (sumN g 16)
theorem lexF_lex (f g : Nat → Int) : ∀ j k, lexF f g j k = lex cmpI ((List.range' k j).map f) ((List.range' k j).map g)
  | 0, _ => rfl
  | j + 1, k => by
    rw [List.range'_succ]
    simp only [List.map_cons, lexF, lex, lexF_lex f g j (k + 1)]
theorem compF_eq (f g : Nat → Int) : compF f g = cmpV f g := by
  unfold compF cmpV lst
  rw [lexF_lex, ← List.range_eq_range']
/-- what is known of the two numbers in hand, at place k -/
def CInv (f g : Nat → Int) (k : Nat) (x y : Int) : Prop := (x = y → lexF f g (16 - k) k = compF f g) ∧ (x ≠ y → cmpI x y = compF f g)
theorem CInv.start (f g : Nat → Int) : CInv f g 0 (sumN f 16) (sumN g 16) := by
  unfold CInv compF
  constructor
  · intro h
    have : cmpI (sumN f 16) (sumN g 16) = 0 := by rw [h]; unfold cmpI; rw [if_neg (by omega), if_neg (by omega)]
    rw [if_pos this]
  · intro h
    have : cmpI (sumN f 16) (sumN g 16) ≠ 0 := by unfold cmpI; split; omega; split <;> omega
    rw [if_neg this]
theorem CInv.next {f g : Nat → Int} {k : Nat} {x y : Int} (I : CInv f g k x y) (hk : k < 16) (h : x = y) : CInv f g (k + 1) (f k) (g k) := by
  have e := I.1 h
  rw [show 16 - k = 16 - (k + 1) + 1 by omega] at e
  unfold lexF at e
  constructor
  · intro h'
    have : cmpI (f k) (g k) = 0 := by rw [h']; unfold cmpI; rw [if_neg (by omega), if_neg (by omega)]
    rw [if_pos this] at e
    exact e
  · intro h'
    have : cmpI (f k) (g k) ≠ 0 := by unfold cmpI; split; omega; split <;> omega
    rw [if_neg this] at e
    exact e
theorem CInv.fin {f g : Nat → Int} {k : Nat} {x y : Int} (I : CInv f g k x y) (h : x ≠ y ∨ 16 ≤ k) : compF f g = cmpI x y := by
  by_cases e : x = y
  · rcases h with h | h
    · exact absurd e h
    · have := I.1 e
      rw [show 16 - k = 0 by omega] at this
      rw [← this, e]; unfold cmpI; rw [if_neg (by omega), if_neg (by omega)]; rfl
  · exact (I.2 e).symm

set_option maxHeartbeats 1600000 in
theorem refCompare_any (ao bo : Option Addr) (n c m d : Nat) (X Y : List Int) (w : World) (hX : Src w ao n c X) (hY : Src w bo m d Y) :
    Calls Try.prog 22 #[.slice ao n c, .slice bo m d] w fun e w' => e = .returned (.int .i64 (cmpV (at' X) (at' Y))) ∧ Below w.heap.size w w' := by
  rw [← compF_eq]
  have HX := hide hX
  have HY := hide hY
  clear hX hY
  go_enter Try.func22, Try.ntmps22
  go_wp2_with fail
  refine (refSum_any ao n c X _ HX.out).mono ?_
  rintro e w1 ⟨rfl, b1⟩
  have B1 := hide b1
  clear b1
  go_wp2_with fail
  refine (refSum_any bo m d Y _ (HY.out.below B1.out)).mono ?_
  rintro e w2 ⟨rfl, b2⟩
  have B2 := hide (below_on2 B1.out b2)
  clear b2 B1
  go_wp2_with fail
  refine (full_any ao n c X _ (HX.out.below B2.out)).mono ?_
  rintro e w3 ⟨rfl, b3⟩
  obtain ⟨w4, s4, a4, b4, _⟩ := fresh55 w w3 (at' X) (below_on2 B2.out b3)
  have B4 := hide b4
  have A4 := hide a4
  clear b3 a4 b4 B2
  go_wp2_with fail
  refine (full_any bo m d Y _ (HY.out.below B4.out)).mono ?_
  rintro e w5 ⟨rfl, b5⟩
  obtain ⟨w6, s6, a6, b6, c6⟩ := fresh55 w w5 (at' Y) (below_on2 B4.out b5)
  have B6 := hide b6
  have A6 := hide ((A4.out.below b5).below c6)
  have C6 := hide a6
  clear b5 a6 b6 c6 A4 B4
  obtain ⟨f, Hf⟩ : ∃ f, Hid (at' X = f) := ⟨_, rfl⟩
  obtain ⟨g, Hg⟩ : ∃ g, Hid (at' Y = g) := ⟨_, rfl⟩
  have I0 := hide (CInv.start f g)
  obtain ⟨p, Hp⟩ : ∃ p, Hid (sumN f 16 = p) := ⟨_, rfl⟩
  obtain ⟨q, Hq⟩ : ∃ q, Hid (sumN g 16 = q) := ⟨_, rfl⟩
  rw [Hp.out, Hq.out] at I0
  have E1 : sumN (at' X) 16 = p := by rw [Hf.out]; exact Hp.out
  have E2 : sumN (at' Y) 16 = q := by rw [Hg.out]; exact Hq.out
  rw [Hf.out] at A6
  rw [Hg.out] at C6
  go_wp2_with fail
  go_loopw [5, 6, 9] (fun u v i wr => ∃ (k : Nat) (x y : Int), k ≤ 16 ∧ i = .int .i64 k ∧ u = .int .i64 x ∧ v = .int .i64 y ∧ Hid (CInv f g k x y) ∧ wr = w6) (fun _ _ i _ => 16 - (intOf i).toNat)
  case atStart => exact ⟨0, p, q, Nat.zero_le _, rfl, by first | rw [E1] | rfl, by first | rw [E2] | rfl, I0, by trivial⟩
  case round =>
    obtain ⟨k, x, y, hk, rfl, rfl, rfl, I, rfl⟩ := hrel
    have fin : (x ≠ y ∨ 16 ≤ k) → compF (at' X) (at' Y) = cmpI x y := by rw [Hf.out, Hg.out]; exact I.out.fin
    have FIN := hide fin
    clear fin E1 E2
    by_cases hxy : x = y
    · have hb : (x == y) = true := by simp [hxy]
      by_cases hlt : k < 16
      · have IN := hide (I.out.next hlt hxy)
        have c1 := A6.out.cell k hlt
        have c2 := C6.out.cell k hlt
        clear hxy FIN
        go_wp2_with fail
        go_roundw
        case rel => exact ⟨k + 1, _, _, by omega, by go_num, rfl, rfl, IN, by trivial⟩
        case measure => simp [intOf]; omega
      · have HC : Hid (compF (at' X) (at' Y) = 0) := by show _ = _; rw [FIN.out (Or.inr (by omega)), hxy]; unfold cmpI; rw [if_neg (by omega), if_neg (by omega)]
        have h1 : ¬ x < y := by omega
        have h2 : ¬ y < x := by omega
        clear hxy FIN
        go_wp2_with fail
        go_ret
        exact ⟨ret_int HC.out.symm, B6.out⟩
    · have hb : (x == y) = false := by simp [hxy]
      have HC := hide (FIN.out (Or.inl hxy))
      clear FIN
      by_cases h1 : x < y
      · have HD : Hid (compF (at' X) (at' Y) = -1) := by show _ = _; rw [HC.out]; unfold cmpI; rw [if_pos h1]
        clear hxy
        by_cases hlt : k < 16
        · go_wp2_with fail
          go_ret
          exact ⟨ret_int HD.out.symm, B6.out⟩
        · go_wp2_with fail
          go_ret
          exact ⟨ret_int HD.out.symm, B6.out⟩
      · have h2 : y < x := by omega
        have HD : Hid (compF (at' X) (at' Y) = 1) := by show _ = _; rw [HC.out]; unfold cmpI; rw [if_neg h1, if_pos h2]
        clear hxy
        by_cases hlt : k < 16
        · go_wp2_with fail
          go_ret
          exact ⟨ret_int HD.out.symm, B6.out⟩
        · go_wp2_with fail
          go_ret
          exact ⟨ret_int HD.out.symm, B6.out⟩
end Go.Proofs.Ytmmgbcmcjakdoaa
