/- The reference's upTo, piece. -/
import Derived.Test.YtflinfmhmokfhaaURj
namespace Go.Proofs.Ytflinfmhmokfhaa
open Go.RowKit
variable {w w' w2 : World} {g : Nat} {ao : Option Addr} {n c : Nat} {Z : List Int}

theorem rdN_len {Z : List Int} {a : Nat} {v k : Int} (h : rdN Z a = (v, k, 0)) : 0 < k ∧ (a : Int) + k ≤ Z.length := by
  have := scan_size Z a 9 0 (by unfold rdN at h; rw [h])
  unfold rdN at h
  rw [h] at this
  exact this
/-- upTo's answer -/
def upA (Z : List Int) (a : Nat) (most : Int) : Int × Int × Int := if nmE (Z.drop a) most = 0 then ((nmV (Z.drop a) : Int), ((a + nmK (Z.drop a) : Nat) : Int), 0) else (0, 0, nmE (Z.drop a) most)
set_option maxRecDepth 100000 in
theorem upTo_any (ao : Option Addr) (n c : Nat) (Z : List Int) (a : Nat) (most : Int) (w : World) (S : Src w ao n c Z) (ha : a ≤ n) (hn : n ≤ 140737488355328) :
    Calls Try.prog 49 #[.slice ao n c, .int .i64 a, .int .i64 most] w fun e w' => e = p3 (upA Z a most) ∧ w' = w := by
  have HC := hide (refRead_any ao n c Z a w S ha (by omega))
  obtain ⟨v, k, x, hr⟩ : ∃ v k x, rdN Z a = (v, k, x) := ⟨_, _, _, rfl⟩
  have hr' : rdN (Z.drop a) 0 = (v, k, x) := by rw [rdN_drop, hr]
  unfold rdA at HC
  rw [hr] at HC
  simp only at HC
  by_cases hx : x = 0
  · subst hx
    rw [if_pos rfl] at HC
    have hk := rdN_len hr
    by_cases hm : most < v
    · have HF : Hid (upA Z a most = (0, 0, 51)) := by
        have e : nmE (Z.drop a) most = 51 := by unfold nmE; rw [hr']; simp only; rw [if_neg (by simp), if_pos hm]
        show _ = _
        unfold upA
        rw [e]; rfl
      clear hr hr' hk S
      go_enter Try.func49, Try.ntmps49
      go_wp2_with fail
      refine HC.out.mono ?_
      rintro e w2 ⟨rfl, rfl⟩
      unfold p3
      go_wp2_with fail
      go_ret3
      exact ⟨by rw [HF.out]; rfl, rfl⟩
    · have e0 : nmE (Z.drop a) most = 0 := by unfold nmE; rw [hr']; simp only; rw [if_neg (by simp), if_neg hm]
      obtain ⟨h1, -⟩ := nm_ok e0
      rw [hr'] at h1
      simp only [Prod.mk.injEq, and_true] at h1
      have HF : Hid (upA Z a most = (v, (a : Int) + k, 0)) := by
        show _ = _
        unfold upA
        rw [if_pos e0, h1.1, h1.2]
        simp
      have hm' : v ≤ most := by omega
      clear hr hr' hk S h1 e0
      go_enter Try.func49, Try.ntmps49
      go_wp2_with fail
      refine HC.out.mono ?_
      rintro e w2 ⟨rfl, rfl⟩
      unfold p3
      go_wp2_with fail
      go_ret3
      exact ⟨by rw [HF.out]; rfl, rfl⟩
  · rw [if_neg hx] at HC
    have HF : Hid (upA Z a most = (0, 0, x)) := by
      have e : nmE (Z.drop a) most = x := by unfold nmE; rw [hr']; simp only; rw [if_pos hx]
      show _ = _
      unfold upA
      rw [e, if_neg hx]
    have h0 : (x != 0) = true := by simpa using hx
    clear hr hr' S
    go_enter Try.func49, Try.ntmps49
    go_wp2_with fail
    refine HC.out.mono ?_
    rintro e w2 ⟨rfl, rfl⟩
    unfold p3
    go_wp2_with fail
    go_ret3
    exact ⟨by rw [HF.out]; rfl, rfl⟩
theorem ar1 {n nx v : Nat} (h : ¬ n < nx + v) : (v : Int) ≤ (n : Int) - nx := by omega
theorem ar2 {n nx v c : Nat} (h : ¬ n < nx + v) (hc : n ≤ c) : ((nx + v : Nat) : Int) ≤ (c : Int) := by omega
theorem ar3 {nx v : Nat} : (nx : Int) ≤ ((nx + v : Nat) : Int) := by omega
theorem ar4 {n nx v : Nat} (h : n < nx + v) : (n : Int) - nx < (v : Int) := by omega
theorem ar5 {n nx : Nat} (h : nx ≤ n) (hn : n ≤ 140737488355328) : wrap64 ((n : Int) - nx) = (n : Int) - nx := w64 (by omega) (by omega)
theorem ar6 {n nx v : Nat} (h : ¬ n < nx + v) (hn : n ≤ 140737488355328) : wrap64 ((nx : Int) + v) = ((nx + v : Nat) : Int) := by rw [w64 (by omega) (by omega)]; rfl
theorem ar7 {n a k nx v : Nat} (h : a + k = nx) (hb : n < nx + v) (hn : nx ≤ n) : n - a < k + v := by omega
theorem ar8 {n a k nx v : Nat} (h : a + k = nx) (hb : ¬ n < nx + v) : ¬ n - a < k + v := by omega
theorem ar9 {n nx v c : Nat} (h : ¬ n < nx + v) (hc : c = nx) (hn : n ≤ c) : v = 0 := by omega
theorem ar10 {n nx v : Nat} (h : ¬ n < nx + v) : v ≤ n - nx := by omega
/-- piece's answer -/
def pcY (Z : List Int) (most : Int) : List Int := if pcE Z most = 0 then (Z.drop (nmK Z)).take (nmV Z) else []
def pcN (Z : List Int) (a : Nat) (most : Int) : Int := if pcE (Z.drop a) most = 0 then ((a + (nmK (Z.drop a) + nmV (Z.drop a)) : Nat) : Int) else 0
set_option maxRecDepth 100000 in
theorem refPiece_any (ao : Option Addr) (n c : Nat) (Z : List Int) (a : Nat) (most : Int) (w : World) (S : Src w ao n c Z) (hcap : n ≤ c) (ha : a ≤ n) (hn : n ≤ 140737488355328) :
    Calls Try.prog 51 #[.slice ao n c, .int .i64 a, .int .i64 most] w fun e w' => e = .returned (.tuple #[.string (strOfNums (pcY (Z.drop a) most)), .int .i64 (pcN Z a most), .int .i64 (pcE (Z.drop a) most)]) ∧ w' = w := by
  have HC := hide (upTo_any ao n c Z a most w S ha hn)
  have hl := S.1
  by_cases h0 : nmE (Z.drop a) most = 0
  · obtain ⟨h1, h2, h3, h4⟩ := nm_ok h0
    rw [List.length_drop] at h3
    have hnk : a + nmK (Z.drop a) ≤ n := by rw [← hl]; clear h1 h2 h0 HC; omega
    obtain ⟨v, hv⟩ : ∃ v, nmV (Z.drop a) = v := ⟨_, rfl⟩
    obtain ⟨nx, hnx⟩ : ∃ nx, a + nmK (Z.drop a) = nx := ⟨_, rfl⟩
    rw [hnx] at hnk
    have HU : Hid (upA Z a most = ((v : Int), (nx : Int), 0)) := by show _ = _; unfold upA; rw [if_pos h0, hv, hnx]
    rw [HU.out] at HC
    by_cases hb : n < nx + v
    · have HP : Hid (pcE (Z.drop a) most = 50) := by show _ = _; unfold pcE; rw [if_neg (by simpa using h0), if_pos (by rw [List.length_drop, hv, hl]; exact ar7 hnx hb hnk)]
      have HY : Hid (pcY (Z.drop a) most = []) := by show _ = _; unfold pcY; rw [HP.out]; rfl
      have HN : Hid (pcN Z a most = 0) := by show _ = _; unfold pcN; rw [HP.out]; rfl
      have hw1 := ar5 hnk hn
      have hg := ar4 hb
      rw [HP.out, HY.out, HN.out]
      clear S h0 h1 h2 h3 h4 hb hv hnx HU hnk
      go_enter Try.func51, Try.ntmps51
      go_wp2_with fail
      refine HC.out.mono ?_
      rintro e w2 ⟨rfl, rfl⟩
      unfold p3
      go_wp2_with fail
      go_ret3
      exact ⟨rfl, rfl⟩
    · have HP : Hid (pcE (Z.drop a) most = 0) := by show _ = _; unfold pcE; rw [if_neg (by simpa using h0), if_neg (by rw [List.length_drop, hv, hl]; exact ar8 hnx hb)]
      have HY : Hid (pcY (Z.drop a) most = (Z.drop nx).take v) := by show _ = _; unfold pcY; rw [if_pos HP.out, List.drop_drop, hnx, hv]
      have HN : Hid (pcN Z a most = ((nx + v : Nat) : Int)) := by show _ = _; unfold pcN; rw [if_pos HP.out, ← Nat.add_assoc, hnx, hv]
      have hw1 := ar5 hnk hn
      have hw2 := ar6 hb hn
      have hg := ar1 hb
      have hg1 : (nx : Int) ≤ ((nx + v : Nat) : Int) := ar3
      have hg2 := ar2 hb hcap
      rw [HP.out, HY.out, HN.out]
      obtain ⟨ao', c', hcs, S', hc'⟩ := S.sub nx hnk hcap
      cases ao with
      | none =>
        have e := (S.2.1 rfl).1
        have : 0 < nx := by rw [← hnx]; clear h1 h2 hg; omega
        clear h1 h2 hg hw1 hw2
        omega
      | some ad =>
        have hz : Z.length = n := hl
        by_cases hc : c = nx
        · obtain ⟨rfl, rfl⟩ : ao' = some ad ∧ c' = 0 := by
            rcases hcs with ⟨x, _⟩ | ⟨ad, x, _, y, z⟩ | ⟨ad, x, y, _⟩
            · cases x
            · exact ⟨y.trans x.symm, z⟩
            · exact absurd hc y
          have e2 : v = 0 := ar9 hb hc hcap
          subst e2
          have hcv : (convert 22 9 (.slice (some ad) 0 0)).run Try.prog w = .ok (.string (strOfNums [])) w := BS.str ⟨rfl, fun h => (by cases h), fun _ _ t ht => absurd ht (Nat.not_lt_zero t)⟩
          subst hc
          clear S h0 h1 h2 h3 h4 hb hv hnx HU hcs S' hc' hnk hcap
          go_enter Try.func51, Try.ntmps51
          go_wp2_with fail
          refine HC.out.mono ?_
          rintro e w2 ⟨rfl, rfl⟩
          unfold p3
          go_wp2_with fail
          go_ret3
          exact ⟨rfl, rfl⟩
        · obtain ⟨rfl, rfl⟩ : ao' = some (ad.add nx) ∧ c' = c - nx := by
            rcases hcs with ⟨x, _⟩ | ⟨ad, x, y, _⟩ | ⟨ad', x, _, y, z⟩
            · cases x
            · exact absurd y hc
            · obtain rfl := Option.some.inj x
              exact ⟨y, z⟩
          have hcv := (S'.take v (ar10 hb)).bs.str
          have hsub : nx + v - nx = v := Nat.add_sub_cancel_left nx v
          clear S h0 h1 h2 h3 h4 hb hv hnx HU hcs S' hc' hnk hcap
          go_enter Try.func51, Try.ntmps51
          go_wp2_with fail
          refine HC.out.mono ?_
          rintro e w2 ⟨rfl, rfl⟩
          unfold p3
          go_wp2_with fail
          go_ret3
          exact ⟨rfl, rfl⟩
  · have HU : Hid (upA Z a most = (0, 0, nmE (Z.drop a) most)) := by show _ = _; unfold upA; rw [if_neg h0]
    rw [HU.out] at HC
    have HP : Hid (pcE (Z.drop a) most = nmE (Z.drop a) most) := by show _ = _; unfold pcE; rw [if_pos (by simpa using h0)]
    have HY : Hid (pcY (Z.drop a) most = []) := by show _ = _; unfold pcY; rw [HP.out, if_neg h0]
    have HN : Hid (pcN Z a most = 0) := by show _ = _; unfold pcN; rw [HP.out, if_neg h0]
    rw [HP.out, HY.out, HN.out]
    have h1 : (nmE (Z.drop a) most != 0) = true := by simpa using h0
    generalize nmE (Z.drop a) most = x at *
    clear S h0 HU HP HY HN
    go_enter Try.func51, Try.ntmps51
    go_wp2_with fail
    refine HC.out.mono ?_
    rintro e w2 ⟨rfl, rfl⟩
    unfold p3
    go_wp2_with fail
    go_ret3
    exact ⟨rfl, rfl⟩
end Go.Proofs.Ytflinfmhmokfhaa
