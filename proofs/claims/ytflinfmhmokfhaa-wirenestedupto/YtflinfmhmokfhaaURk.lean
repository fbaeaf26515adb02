/- The reader's Flag, Count, Text, Fail. -/
import Derived.Test.YtflinfmhmokfhaaURj
namespace Go.Proofs.Ytflinfmhmokfhaa
open Go.RowKit
theorem add_zero_ (p : Addr) : p.add 0 = p := by unfold Addr.add; split <;> simp_all
variable {w w' w2 : World} {g : Nat} {ro so : Option Addr} {rn rc sn sc : Nat} {gave : Int} {over : Bool} {Z : List Int}

/-- the error of a flag -/
def flE (Z : List Int) : Int := if Z.length = 0 then 50 else if 1 < Z.getD 0 0 then 51 else 0
set_option maxRecDepth 100000 in
theorem flag_ok (R : RL w g ro rn rc Z) (h : flE Z = 0) : Calls Try.prog 26 #[ptr g] w fun r w' => r = .returned (.bool (Z.getD 0 0 == 1)) ∧ Mv w w' g ro rn 1 Z := by
  have hl : 0 < rn ∧ ¬ 1 < Z.getD 0 0 := by
    have := R.len
    unfold flE at h
    split at h
    · cases h
    · split at h
      · cases h
      · exact ⟨by omega, by assumption⟩
  obtain ⟨hl, hz⟩ := hl
  obtain ⟨ad, rfl, hc⟩ := cell_at R.s 0 hl
  obtain ⟨z, hzz⟩ : ∃ z, Z.getD 0 0 = z := ⟨_, rfl⟩
  rw [hzz] at hc hz
  rw [hzz]
  have hc0 := hc
  rw [add_zero_] at hc0
  have HM := hide (mayRead_live R.r)
  have x0 := R.r.c0
  have z0 := R.r.z 0
  obtain ⟨ao', cap', hcs, S', hc'⟩ := R.s.sub 1 (by omega) R.cap
  have hcap := R.cap
  have h1 : (1 : Int) ≤ (rn : Int) := by omega
  have h2 : ¬ rn = 0 := by omega
  have h20 : ((rn : Int) == 0) = false := by simp; omega
  by_cases hcc : rc = 1
  · obtain ⟨rfl, rfl⟩ : ao' = some ad ∧ cap' = 0 := by
      rcases hcs with ⟨x, _⟩ | ⟨ad, x, _, y, z⟩ | ⟨ad, x, y, _⟩
      · cases x
      · exact ⟨y.trans x.symm, z⟩
      · exact absurd hcc y
    obtain rfl : rn = 1 := by omega
    have HE := hide (R.set 1 (by omega) S' hc' rfl)
    rw [Nat.sub_self] at HE
    clear R h S' hc' hcs hzz
    subst hcc
    go_enter Try.func26, Try.ntmps26
    go_wp2_with fail
    refine HM.out.mono ?_
    rintro e w2 ⟨rfl, rfl⟩
    go_wp2_with fail
    go_ret
    exact ⟨rfl, _, _, HE.out.1, rfl, HE.out.2⟩
  · obtain ⟨rfl, rfl⟩ : ao' = some (ad.add 1) ∧ cap' = rc - 1 := by
      rcases hcs with ⟨x, _⟩ | ⟨ad, x, y, _⟩ | ⟨ad', x, _, y, z⟩
      · cases x
      · exact absurd y hcc
      · obtain rfl := Option.some.inj x
        exact ⟨y, z⟩
    have HE := hide (R.set 1 (by omega) S' hc' (blk_add ad 1))
    have h3 : (1 : Int) ≤ (rc : Int) := by omega
    clear R h S' hc' hcs hzz
    go_enter Try.func26, Try.ntmps26
    go_wp2_with fail
    refine HM.out.mono ?_
    rintro e w2 ⟨rfl, rfl⟩
    go_wp2_with fail
    go_ret
    exact ⟨rfl, _, _, HE.out.1, blk_add ad 1, HE.out.2⟩
set_option maxRecDepth 100000 in
theorem flag_bad (R : RL w g ro rn rc Z) {e : Int} (h : flE Z = e) (he : e ≠ 0) : Calls Try.prog 26 #[ptr g] w fun r w' => r = .panicked (ups g) ∧ Gave w w' g e := by
  have hlen := R.len
  have HM := hide (mayRead_live R.r)
  have x0 := R.r.c0
  unfold flE at h
  by_cases h0 : Z.length = 0
  · rw [if_pos h0] at h
    subst h
    obtain rfl : rn = 0 := by omega
    have HU := hide (giveUp_any R.r 50)
    clear R he
    go_enter Try.func26, Try.ntmps26
    go_wp2_with fail
    refine HM.out.mono ?_
    rintro e w2 ⟨rfl, rfl⟩
    go_wp2_with fail
    refine HU.out.mono ?_
    rintro e w3 ⟨rfl, R3, K3⟩
    have HE : Hid (Gave w2 w3 g 50) := ⟨R3, K3⟩
    clear R3 K3
    go_wp2_with fail
    exact ⟨rfl, rfl, HE.out⟩
  · rw [if_neg h0] at h
    have hz : 1 < Z.getD 0 0 := by
      by_cases hz : 1 < Z.getD 0 0
      · exact hz
      · rw [if_neg hz] at h; exact absurd h.symm he
    rw [if_pos hz] at h
    subst h
    obtain ⟨ad, rfl, hc⟩ := cell_at R.s 0 (by omega)
    obtain ⟨z, hzz⟩ : ∃ z, Z.getD 0 0 = z := ⟨_, rfl⟩
    rw [hzz] at hc hz
    have hc0 := hc
    rw [add_zero_] at hc0
    have HU := hide (giveUp_any R.r 51)
    have h2 : ¬ rn = 0 := by omega
    have h20 : ((rn : Int) == 0) = false := by simp; omega
    clear R he h0 hlen
    go_enter Try.func26, Try.ntmps26
    go_wp2_with fail
    refine HM.out.mono ?_
    rintro e w2 ⟨rfl, rfl⟩
    go_wp2_with fail
    refine HU.out.mono ?_
    rintro e w3 ⟨rfl, R3, K3⟩
    have HE : Hid (Gave w2 w3 g 51) := ⟨R3, K3⟩
    clear R3 K3
    go_wp2_with fail
    exact ⟨rfl, rfl, HE.out⟩
set_option maxRecDepth 100000 in
theorem text_ok (R : RL w g ro rn rc Z) {most : Int} (h : pcE Z most = 0) : Calls Try.prog 28 #[ptr g, .int .i64 most] w fun r w' => r = .returned (.string (strOfNums ((Z.drop (nmK Z)).take (nmV Z)))) ∧ Mv w w' g ro rn (nmK Z + nmV Z) Z := by
  have HC := hide (piece_ok R h)
  clear R h
  go_enter Try.func28, Try.ntmps28
  go_wp2_with fail
  refine HC.out.mono ?_
  rintro e w2 ⟨po, pc, rfl, S2, hb, M2⟩
  have hs := S2.bs.str
  have HM := hide M2
  clear S2 hb M2 HC
  go_wp2_with fail
  go_ret
  exact ⟨rfl, HM.out⟩
set_option maxRecDepth 100000 in
theorem text_bad (R : RL w g ro rn rc Z) {most e : Int} (h : pcE Z most = e) (he : e ≠ 0) : Calls Try.prog 28 #[ptr g, .int .i64 most] w fun r w' => r = .panicked (ups g) ∧ Gave w w' g e := by
  have HC := hide (piece_bad R h he)
  clear R h
  go_enter Try.func28, Try.ntmps28
  go_wp2_with fail
  refine HC.out.mono ?_
  rintro r w2 ⟨rfl, hG⟩
  have HE := hide hG
  clear hG
  go_wp2_with fail
  exact ⟨rfl, rfl, HE.out⟩
/-- the error of a count of things of so many bytes -/
def mxN : Int := 9223372036854775807
def eachN (each : Int) : Int := if each < 1 then 1 else each
def ctE (Z : List Int) (each : Int) : Int := if nmE Z mxN ≠ 0 then nmE Z mxN else if (((Z.length - nmK Z : Nat) : Int)).tdiv (eachN each) < (nmV Z : Int) then 50 else 0
theorem eachN_pos (each : Int) : 1 ≤ eachN each := by unfold eachN; split <;> omega
theorem ctE_ok {each : Int} (h : ctE Z each = 0) : nmE Z mxN = 0 ∧ ¬ (((Z.length - nmK Z : Nat) : Int)).tdiv (eachN each) < (nmV Z : Int) := by
  unfold ctE at h
  split at h
  · rename_i hn; exact absurd h hn
  · rename_i hn
    split at h
    · cases h
    · exact ⟨by simpa using hn, by assumption⟩
theorem tdiv_wrap {a b : Int} (ha : 0 ≤ a) (ha2 : a ≤ 9223372036854775807) (hb : 1 ≤ b) : wrap64 (a.tdiv b) = a.tdiv b := by
  have h1 : 0 ≤ a.tdiv b := Int.tdiv_nonneg ha (by omega)
  have h2 : a.tdiv b ≤ a := by
    rw [Int.tdiv_eq_ediv_of_nonneg ha]
    exact Int.ediv_le_self _ ha
  exact w64 (by omega) (by omega)
set_option maxRecDepth 100000 in
theorem count_ok (R : RL w g ro rn rc Z) {each : Int} (h : ctE Z each = 0) : Calls Try.prog 27 #[ptr g, .int .i64 each] w fun r w' => r = .returned (.int .i64 (nmV Z : Int)) ∧ Mv w w' g ro rn (nmK Z) Z := by
  obtain ⟨hn, hl⟩ := ctE_ok h
  have HC := hide (Num_ok R hn)
  unfold mxN at HC
  obtain ⟨v, hv⟩ : ∃ v, nmV Z = v := ⟨_, rfl⟩
  obtain ⟨k, hk⟩ : ∃ k, nmK Z = k := ⟨_, rfl⟩
  rw [hv, hk] at HC ⊢
  rw [hv, hk, R.len] at hl
  have hb := R.big
  obtain ⟨m, hm⟩ : ∃ m, rn - k = m := ⟨_, rfl⟩
  rw [hm] at hl
  have hw := tdiv_wrap (a := (m : Int)) (b := eachN each) (by omega) (by omega) (eachN_pos each)
  have hp := eachN_pos each
  have hez : ¬ eachN each = 0 := by omega
  unfold eachN at hw hl hez
  have HL : Hid (rn - k = m) := hm
  clear R h hn hv hk hb hp hm
  by_cases he : each < 1
  · rw [if_pos he] at hw hl hez
    rw [Int.tdiv_one] at hw hl
    go_enter Try.func27, Try.ntmps27
    go_wp2_with fail
    refine HC.out.mono ?_
    rintro e w2 ⟨rfl, so, sc, R2, hb, K2⟩
    have x0 := R2.r.c0
    rw [HL.out] at x0
    have HE : Hid (Mv w w2 g ro rn k Z) := ⟨so, sc, R2, hb, K2⟩
    clear R2 hb K2
    go_wp2_with fail
    go_ret
    exact ⟨rfl, HE.out⟩
  · rw [if_neg he] at hw hl hez
    rw [Int.tdiv_eq_ediv_of_nonneg (Int.natCast_nonneg m)] at hw hl
    go_enter Try.func27, Try.ntmps27
    go_wp2_with fail
    refine HC.out.mono ?_
    rintro e w2 ⟨rfl, so, sc, R2, hb, K2⟩
    have x0 := R2.r.c0
    rw [HL.out] at x0
    have HE : Hid (Mv w w2 g ro rn k Z) := ⟨so, sc, R2, hb, K2⟩
    clear R2 hb K2
    go_wp2_with fail
    go_ret
    exact ⟨rfl, HE.out⟩
set_option maxRecDepth 100000 in
theorem count_bad (R : RL w g ro rn rc Z) {each e : Int} (h : ctE Z each = e) (he : e ≠ 0) : Calls Try.prog 27 #[ptr g, .int .i64 each] w fun r w' => r = .panicked (ups g) ∧ Gave w w' g e := by
  by_cases hn : nmE Z mxN = 0
  · have HC := hide (Num_ok R hn)
    unfold mxN at HC
    have hl : (((Z.length - nmK Z : Nat) : Int)).tdiv (eachN each) < (nmV Z : Int) ∧ e = 50 := by
      unfold ctE at h
      rw [if_neg (by simpa using hn)] at h
      split at h
      · rename_i hl; exact ⟨hl, h.symm⟩
      · exact absurd h.symm he
    obtain ⟨hl, rfl⟩ := hl
    obtain ⟨v, hv⟩ : ∃ v, nmV Z = v := ⟨_, rfl⟩
    obtain ⟨k, hk⟩ : ∃ k, nmK Z = k := ⟨_, rfl⟩
    rw [hv, hk] at HC
    rw [hv, hk, R.len] at hl
    have hb := R.big
    obtain ⟨m, hm⟩ : ∃ m, rn - k = m := ⟨_, rfl⟩
    rw [hm] at hl
    have hw := tdiv_wrap (a := (m : Int)) (b := eachN each) (by omega) (by omega) (eachN_pos each)
    have hp := eachN_pos each
    have hez : ¬ eachN each = 0 := by omega
    unfold eachN at hw hl hez
    have HL : Hid (rn - k = m) := hm
    clear R h hn hv hk hb he hp hm
    by_cases he : each < 1
    · rw [if_pos he] at hw hl hez
      rw [Int.tdiv_one] at hw hl
      go_enter Try.func27, Try.ntmps27
      go_wp2_with fail
      refine HC.out.mono ?_
      rintro e w2 ⟨rfl, so, sc, R2, hb, K2⟩
      have x0 := R2.r.c0
      rw [HL.out] at x0
      have HU := hide (giveUp_any R2.r 50)
      have HK := hide K2
      clear R2 hb K2 HC
      go_wp2_with fail
      refine HU.out.mono ?_
      rintro e w3 ⟨rfl, R3, K3⟩
      have HE : Hid (Gave w w3 g 50) := ⟨R3, HK.out.trans K3⟩
      clear R3 K3
      go_wp2_with fail
      exact ⟨rfl, rfl, HE.out⟩
    · rw [if_neg he] at hw hl hez
      rw [Int.tdiv_eq_ediv_of_nonneg (Int.natCast_nonneg m)] at hw hl
      go_enter Try.func27, Try.ntmps27
      go_wp2_with fail
      refine HC.out.mono ?_
      rintro e w2 ⟨rfl, so, sc, R2, hb, K2⟩
      have x0 := R2.r.c0
      rw [HL.out] at x0
      have HU := hide (giveUp_any R2.r 50)
      have HK := hide K2
      clear R2 hb K2 HC
      go_wp2_with fail
      refine HU.out.mono ?_
      rintro e w3 ⟨rfl, R3, K3⟩
      have HE : Hid (Gave w w3 g 50) := ⟨R3, HK.out.trans K3⟩
      clear R3 K3
      go_wp2_with fail
      exact ⟨rfl, rfl, HE.out⟩
  · have e1 : nmE Z mxN = e := by
      unfold ctE at h
      rw [if_pos (by simpa using hn)] at h
      exact h
    unfold mxN at e1
    have HC := hide (num_bad R e1 he)
    clear h hn R
    go_enter Try.func27, Try.ntmps27
    go_wp2_with fail
    refine HC.out.mono ?_
    rintro r w2 ⟨rfl, hG⟩
    have HE := hide hG
    clear hG
    go_wp2_with fail
    exact ⟨rfl, rfl, HE.out⟩
end Go.Proofs.Ytflinfmhmokfhaa
