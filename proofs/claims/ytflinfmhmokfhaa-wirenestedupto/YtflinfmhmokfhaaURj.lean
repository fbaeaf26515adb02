/- The reader's piece, Frame. -/
import Derived.Test.YtflinfmhmokfhaaURf
namespace Go.Proofs.Ytflinfmhmokfhaa
open Go.RowKit
variable {w w' w2 : World} {g ev rv : Nat} {ro so : Option Addr} {rn rc sn sc : Nat} {gave : Int} {over : Bool} {Z : List Int}

theorem Src.bs {m c : Nat} (S : Src w so m c Z) : BS w so m c Z := ⟨S.1, S.2.1, S.2.2.1⟩
theorem Src.take {ad : Addr} {m c : Nat} (S : Src w (some ad) m c Z) (v : Nat) (hv : v ≤ m) : Src w (some ad) v c (Z.take v) := by
  refine ⟨by rw [List.length_take, S.1]; omega, fun h => (by cases h), fun a ha t ht => ?_, fun t => ?_⟩
  · rw [S.2.2.1 a ha t (by omega)]
    simp [List.getD, ht]
  · by_cases ht : t < v
    · have := S.2.2.2 t
      simp only [List.getD, List.getElem?_take, if_pos ht] at this ⊢
      exact this
    · simp [List.getD, List.getElem?_take, ht]
/-- the number at the beginning, and how many bytes it takes -/
def nmV (Z : List Int) : Nat := (rdN Z 0).1.toNat
def nmK (Z : List Int) : Nat := (rdN Z 0).2.1.toNat
/-- the error of a piece of at most so many bytes -/
def pcE (Z : List Int) (most : Int) : Int := if nmE Z most ≠ 0 then nmE Z most else if Z.length < nmK Z + nmV Z then 50 else 0
theorem nm_ok {Z : List Int} {most : Int} (h : nmE Z most = 0) : rdN Z 0 = ((nmV Z : Int), (nmK Z : Int), 0) ∧ (nmV Z : Int) ≤ most ∧ nmK Z ≤ Z.length ∧ 0 < nmK Z := by
  obtain ⟨v, k, e, h1, h2, h3, h4⟩ := nmE_ok h
  have a : nmK Z = k := by unfold nmK; rw [e]; simp
  have b : (nmV Z : Int) = v := by unfold nmV; rw [e]; simp only; omega
  rw [a, b]
  exact ⟨e, h1, h2, h3⟩
/-- what a reader leaves that read on: the place alone has moved -/
def Mv (w w' : World) (g : Nat) (ro : Option Addr) (rn k : Nat) (Z : List Int) : Prop := ∃ so sc, RL w' g so (rn - k) sc (Z.drop k) ∧ blk so = blk ro ∧ Kg w w' g
theorem Num_ok (R : RL w g ro rn rc Z) {most : Int} (h : nmE Z most = 0) : Calls Try.prog 25 #[ptr g, .int .i64 most] w fun r w' =>
    r = .returned (.int .i64 (nmV Z)) ∧ Mv w w' g ro rn (nmK Z) Z := num_ok R (nm_ok h).1 (nm_ok h).2.1
theorem mv_two {w3 : World} {k v : Nat} (K2 : Kg w w2 g) (RS : RL w3 g so (rn - k - v) sc ((Z.drop k).drop v)) (hb : blk so = blk ro) (K3 : Kg w2 w3 g) : Mv w w3 g ro rn (k + v) Z := ⟨so, sc, by rw [Nat.sub_sub, List.drop_drop] at RS; exact RS, hb, K2.trans K3⟩
/-- piece answers this row, which lies in what is read -/
def PcR (w w' : World) (g : Nat) (ro : Option Addr) (rn : Nat) (Z : List Int) (r : Ending) : Prop := ∃ po pc, r = .returned (.slice po (nmV Z) pc) ∧ Src w' po (nmV Z) pc ((Z.drop (nmK Z)).take (nmV Z)) ∧ blk po = blk ro ∧ Mv w w' g ro rn (nmK Z + nmV Z) Z
theorem pcE_ok {Z : List Int} {most : Int} (h : pcE Z most = 0) : nmE Z most = 0 ∧ nmK Z + nmV Z ≤ Z.length := by
  unfold pcE at h
  split at h
  · rename_i hn; exact absurd h hn
  · rename_i hn
    split at h
    · cases h
    · exact ⟨by simpa using hn, by omega⟩
set_option maxRecDepth 100000 in
set_option maxHeartbeats 1000000 in
theorem piece_ok (R : RL w g ro rn rc Z) {most : Int} (h : pcE Z most = 0) : Calls Try.prog 43 #[ptr g, .int .i64 most] w fun r w' => PcR w w' g ro rn Z r := by
  obtain ⟨hn, hl⟩ := pcE_ok h
  have HC := hide (Num_ok R hn)
  have hk := (nm_ok hn).2.2.2
  have hlen := R.len
  cases ro with
  | none => have := (R.s.2.1 rfl).1; omega
  | some ad0 =>
    obtain ⟨v, hv⟩ : ∃ v, nmV Z = v := ⟨_, rfl⟩
    obtain ⟨k, hkk⟩ : ∃ k, nmK Z = k := ⟨_, rfl⟩
    rw [hv, hkk] at HC
    rw [hkk, hv] at hl
    rw [hkk] at hk
    have HP : Hid (∀ w' r, (∃ po pc, r = .returned (.slice po v pc) ∧ Src w' po v pc ((Z.drop k).take v) ∧ blk po = blk (some ad0) ∧ Mv w w' g (some ad0) rn (k + v) Z) → PcR w w' g (some ad0) rn Z r) := by
      intro w' r hh
      unfold PcR
      rw [hv, hkk]
      exact hh
    have HL : Hid (k + v ≤ rn ∧ 0 < k) := ⟨by omega, hk⟩
    clear hn h R hk hl hlen hv hkk
    go_enter Try.func43, Try.ntmps43
    go_wp2_with fail
    refine HC.out.mono ?_
    rintro e w2 ⟨rfl, so, sc, R2, hb, K2⟩
    cases so with
    | none => cases hb
    | some ad =>
      have x0 := R2.r.c0
      have z0 := R2.r.z 0
      have h1 : ¬ ((rn - k : Nat) : Int) < (v : Int) := by have := HL.out; omega
      have h2 : (v : Int) ≤ ((rn - k : Nat) : Int) := by have := HL.out; omega
      have h3 : (v : Int) ≤ (sc : Int) := by have := HL.out; have := R2.cap; omega
      obtain ⟨ao', cap', hcs, S', hc'⟩ := R2.s.sub v (by have := HL.out; omega) R2.cap
      have ST := R2.s.take v (by have := HL.out; omega)
      by_cases hc : sc = v
      · obtain ⟨rfl, rfl⟩ : ao' = some ad ∧ cap' = 0 := by
          rcases hcs with ⟨x, _⟩ | ⟨ad, x, _, y, z⟩ | ⟨ad, x, y, _⟩
          · cases x
          · exact ⟨y.trans x.symm, z⟩
          · exact absurd hc y
        have HE := hide (R2.set v (by have := HL.out; omega) S' hc' rfl)
        have HS := hide (And.intro ST (And.intro K2 hb))
        have HSn : Hid (v ≠ 0 → blk (some ad) ≠ some g) := fun h => R2.ne (by have := HL.out; omega)
        clear R2 S' hcs hc' ST K2 hb HC
        subst hc
        go_wp2_with fail
        go_ret
        exact HP.out _ _ ⟨_, _, rfl, HS.out.1.kg HE.out.2 HSn.out, HS.out.2.2, mv_two HS.out.2.1 HE.out.1 HS.out.2.2 HE.out.2⟩
      · obtain ⟨rfl, rfl⟩ : ao' = some (ad.add v) ∧ cap' = sc - v := by
          rcases hcs with ⟨x, _⟩ | ⟨ad, x, y, _⟩ | ⟨ad', x, _, y, z⟩
          · cases x
          · exact absurd y hc
          · obtain rfl := Option.some.inj x
            exact ⟨y, z⟩
        have HE := hide (R2.set v (by have := HL.out; omega) S' hc' (blk_add ad v))
        have HS := hide (And.intro ST (And.intro K2 hb))
        have HSn : Hid (v ≠ 0 → blk (some ad) ≠ some g) := fun h => R2.ne (by have := HL.out; omega)
        clear R2 S' hcs hc' ST K2 hb HC
        go_wp2_with fail
        go_ret
        exact HP.out _ _ ⟨_, _, rfl, HS.out.1.kg HE.out.2 HSn.out, HS.out.2.2, mv_two HS.out.2.1 HE.out.1 ((blk_add ad v).trans HS.out.2.2) HE.out.2⟩
set_option maxRecDepth 100000 in
theorem piece_bad (R : RL w g ro rn rc Z) {most e : Int} (h : pcE Z most = e) (he : e ≠ 0) : Calls Try.prog 43 #[ptr g, .int .i64 most] w fun r w' => r = .panicked (ups g) ∧ Gave w w' g e := by
  by_cases hn : nmE Z most = 0
  · have HC := hide (Num_ok R hn)
    have hl : Z.length < nmK Z + nmV Z ∧ e = 50 := by
      unfold pcE at h
      rw [if_neg (by simpa using hn)] at h
      split at h
      · rename_i hl; exact ⟨hl, h.symm⟩
      · exact absurd h.symm he
    obtain ⟨hl, rfl⟩ := hl
    have hlen := R.len
    obtain ⟨v, hv⟩ : ∃ v, nmV Z = v := ⟨_, rfl⟩
    obtain ⟨k, hkk⟩ : ∃ k, nmK Z = k := ⟨_, rfl⟩
    have hkl := (nm_ok hn).2.2.1
    rw [hkk] at hkl
    rw [hv, hkk] at HC hl
    have HL : Hid (rn < k + v ∧ k ≤ rn) := ⟨by omega, by omega⟩
    clear h he hn R hl hlen hv hkk hkl
    go_enter Try.func43, Try.ntmps43
    go_wp2_with fail
    refine HC.out.mono ?_
    rintro e w2 ⟨rfl, so, sc, R2, hb, K2⟩
    have x0 := R2.r.c0
    have h1 : ((rn - k : Nat) : Int) < (v : Int) := by have := HL.out; omega
    have HU := hide (giveUp_any R2.r 50)
    have HK := hide K2
    clear R2 hb K2 HC
    go_wp2_with fail
    refine HU.out.mono ?_
    rintro e w3 ⟨rfl, R3, K3⟩
    have HE : Hid (Gave w w3 g 50) := ⟨R3, HK.out.trans K3⟩
    clear R3 K3
    go_wp2_with fail
    exact ⟨rfl, rfl, HE.out⟩
  · have e1 : nmE Z most = e := by
      unfold pcE at h
      rw [if_pos (by simpa using hn)] at h
      exact h
    have HC := hide (num_bad R e1 he)
    clear h hn R
    go_enter Try.func43, Try.ntmps43
    go_wp2_with fail
    refine HC.out.mono ?_
    rintro r w2 ⟨rfl, hG⟩
    have HE := hide hG
    clear hG
    go_wp2_with fail
    exact ⟨rfl, rfl, HE.out⟩
/-- Frame answers this row, in new memory -/
def FrR (w w' : World) (g : Nat) (ro : Option Addr) (rn : Nat) (Z : List Int) (r : Ending) : Prop := ∃ po pc, r = .returned (.slice po (nmV Z) pc) ∧ BR w' po (nmV Z) pc ((Z.drop (nmK Z)).take (nmV Z)) ∧ (∀ k, blk po = some k → w.heap.size ≤ k) ∧ Mv w w' g ro rn (nmK Z + nmV Z) Z
theorem Mv.below {k : Nat} (h : Mv w w' g ro rn k Z) (b : Below w'.heap.size w' w2) : Mv w w2 g ro rn k Z := by
  obtain ⟨so, sc, R, hb, K⟩ := h
  exact ⟨so, sc, R.kg_below b, hb, K.trans (Kg.of_below b)⟩
set_option maxRecDepth 100000 in
theorem frame_ok (R : RL w g ro rn rc Z) {most : Int} (h : pcE Z most = 0) : Calls Try.prog 29 #[ptr g, .int .i64 most] w fun r w' => FrR w w' g ro rn Z r := by
  have HC := hide (piece_ok R h)
  have HL : Hid (nmV Z ≤ 140737488355328) := by show _ ≤ _; have := (pcE_ok h).2; have := R.len; have := R.big; omega
  clear R h
  go_enter Try.func29, Try.ntmps29
  go_wp2_with fail
  refine HC.out.mono ?_
  rintro e w2 ⟨po, pc, rfl, S2, hb, M2⟩
  have HD := hide (clone_any po (nmV Z) pc _ w2 S2.bs HL.out)
  have HM := hide M2
  clear S2 hb M2 HC
  go_wp2_with fail
  refine HD.out.mono ?_
  rintro e w3 ⟨bo, bc, rfl, B3, N3⟩
  have HE : Hid (FrR w w3 g ro rn Z (.returned (.slice bo (nmV Z) bc))) := ⟨bo, bc, rfl, B3, fun k e => Nat.le_trans (by obtain ⟨_, _, _, _, K⟩ := HM.out; exact K.size) (N3.2 k e), HM.out.below N3.1⟩
  clear B3 N3 HD
  go_wp2_with fail
  go_ret
  exact HE.out
set_option maxRecDepth 100000 in
theorem frame_bad (R : RL w g ro rn rc Z) {most e : Int} (h : pcE Z most = e) (he : e ≠ 0) : Calls Try.prog 29 #[ptr g, .int .i64 most] w fun r w' => r = .panicked (ups g) ∧ Gave w w' g e := by
  have HC := hide (piece_bad R h he)
  clear R h
  go_enter Try.func29, Try.ntmps29
  go_wp2_with fail
  refine HC.out.mono ?_
  rintro r w2 ⟨rfl, hG⟩
  have HE := hide hG
  clear hG
  go_wp2_with fail
  exact ⟨rfl, rfl, HE.out⟩
end Go.Proofs.Ytflinfmhmokfhaa
