/- The reader's Num, Left. -/
import Derived.Test.YtflinfmhmokfhaaURe
namespace Go.Proofs.Ytflinfmhmokfhaa
open Go.RowKit
variable {w w' w2 : World} {g : Nat} {ro so : Option Addr} {rn rc sn sc : Nat} {gave : Int} {over : Bool} {Z : List Int}

theorem blk_add (ad : Addr) (k : Nat) : blk (some (ad.add k)) = blk (some ad) := congrArg some (block_of_add ad k)
theorem scan_pos (Z : List Int) (a f k : Nat) : 0 ≤ (scan Z a f k).1 := by
  induction f generalizing k with
  | zero => exact Int.le_refl _
  | succ f ih =>
    unfold scan
    split
    · exact Int.le_refl _
    · split
      · split
        · exact Int.le_refl _
        · exact (val_bd Z a (k + 1)).1
      · exact ih _
theorem firstC (R : RL w g ro rn rc Z) {v k e : Int} (h : rdN Z 0 = (v, k, e)) : Calls Try.prog 41 #[.slice ro rn rc] w fun r w' => r = .returned (.tuple #[.int .i64 v, .int .i64 k, .int .i64 e]) ∧ w' = w := by
  have := first_any ro rn rc Z w R.s R.cap (Nat.le_trans R.big (by decide))
  rw [h] at this
  exact this
/-- what is behind the first k bytes -/
theorem RL.set (R : RL w g ro rn rc Z) (k : Nat) (_ : k ≤ rn) {ao' : Option Addr} {c' : Nat} (S : Src w ao' (rn - k) c' (Z.drop k)) (hc : rn - k ≤ c') (hb : blk ao' = blk ro) : RL (w.setCell ⟨g, 0, none⟩ (.slice ao' (rn - k) c')) g ao' (rn - k) c' (Z.drop k) ∧ Kg w (w.setCell ⟨g, 0, none⟩ (.slice ao' (rn - k) c')) g := by
  have hK := (Kg.refl w g).set 0 (.slice ao' (rn - k) c')
  exact ⟨⟨R.r.set0 _ _ _, S.kg hK (fun h => by rw [hb]; exact R.ne (by omega)), hc, by have := R.big; omega, fun h => by rw [hb]; exact R.ne (by omega)⟩, hK⟩
theorem rdN_ok {Z : List Int} {v k : Int} (h : rdN Z 0 = (v, k, 0)) : 0 < k ∧ k ≤ Z.length := by
  have := scan_size Z 0 9 0 (by unfold rdN at h; rw [h])
  unfold rdN at h
  rw [h] at this
  simp only at this
  omega
set_option maxRecDepth 100000 in
theorem num_ok (R : RL w g ro rn rc Z) {v most : Int} {k : Nat} (h : rdN Z 0 = (v, (k : Int), 0)) (hv : v ≤ most) : Calls Try.prog 25 #[ptr g, .int .i64 most] w fun r w' =>
    r = .returned (.int .i64 v) ∧ ∃ so sc, RL w' g so (rn - k) sc (Z.drop k) ∧ blk so = blk ro ∧ Kg w w' g := by
  have hk := rdN_ok h
  rw [R.len] at hk
  have hkn : k ≤ rn := by omega
  have hk0 : 0 < k := by omega
  have HM := hide (mayRead_live R.r)
  have HF := hide (firstC R h)
  have x0 := R.r.c0
  have z0 := R.r.z 0
  have h1 : (k : Int) ≤ (rn : Int) := by omega
  have h2 : ¬ most < v := by omega
  obtain ⟨ao', cap', hcs, S', hc'⟩ := R.s.sub k hkn R.cap
  cases ro with
  | none => have := (R.s.2.1 rfl).1; omega
  | some ad =>
    by_cases hc : rc = k
    · obtain ⟨rfl, rfl⟩ : ao' = some ad ∧ cap' = 0 := by
        rcases hcs with ⟨x, _⟩ | ⟨ad, x, _, y, z⟩ | ⟨ad, x, y, _⟩
        · cases x
        · exact ⟨y.trans x.symm, z⟩
        · exact absurd hc y
      have HE := hide (R.set k hkn S' hc' rfl)
      have HCap := hide R.cap
      clear R S' hcs hc' hk hv h
      subst hc
      go_enter Try.func25, Try.ntmps25
      go_wp2_with fail
      refine HM.out.mono ?_
      rintro e w2 ⟨rfl, rfl⟩
      go_wp2_with fail
      refine HF.out.mono ?_
      rintro e w2 ⟨rfl, rfl⟩
      go_wp2_with fail
      go_ret
      exact ⟨rfl, _, _, HE.out.1, rfl, HE.out.2⟩
    · obtain ⟨rfl, rfl⟩ : ao' = some (ad.add k) ∧ cap' = rc - k := by
        rcases hcs with ⟨x, _⟩ | ⟨ad, x, y, _⟩ | ⟨ad', x, _, y, z⟩
        · cases x
        · exact absurd y hc
        · obtain rfl := Option.some.inj x
          exact ⟨y, z⟩
      have HE := hide (R.set k hkn S' hc' (blk_add ad k))
      have h3 : (k : Int) ≤ (rc : Int) := by have := R.cap; omega
      clear R S' hcs hc' hk hv h
      go_enter Try.func25, Try.ntmps25
      go_wp2_with fail
      refine HM.out.mono ?_
      rintro e w2 ⟨rfl, rfl⟩
      go_wp2_with fail
      refine HF.out.mono ?_
      rintro e w2 ⟨rfl, rfl⟩
      go_wp2_with fail
      go_ret
      exact ⟨rfl, _, _, HE.out.1, blk_add ad k, HE.out.2⟩
/-- the error of a number that may not be above most -/
def nmE (Z : List Int) (most : Int) : Int := if (rdN Z 0).2.2 ≠ 0 then (rdN Z 0).2.2 else if most < (rdN Z 0).1 then 51 else 0
theorem nmE_ok {Z : List Int} {most : Int} (h : nmE Z most = 0) : ∃ (v : Int) (k : Nat), rdN Z 0 = (v, (k : Int), 0) ∧ v ≤ most ∧ k ≤ Z.length ∧ 0 < k ∧ 0 ≤ v := by
  obtain ⟨v, k, e, he⟩ : ∃ v k e, rdN Z 0 = (v, k, e) := ⟨_, _, _, rfl⟩
  unfold nmE at h
  rw [he] at h
  simp only at h
  split at h
  · rename_i hn
    exact absurd h hn
  · rename_i hn
    split at h
    · cases h
    · rename_i hm
      obtain rfl : e = 0 := by simpa using hn
      have := rdN_ok he
      refine ⟨v, k.toNat, by rw [he]; simp; omega, by omega, by omega, by omega, ?_⟩
      have hp := scan_pos Z 0 9 0
      unfold rdN at he
      rw [he] at hp
      exact hp
set_option maxRecDepth 100000 in
theorem num_bad (R : RL w g ro rn rc Z) {most e : Int} (h : nmE Z most = e) (he : e ≠ 0) : Calls Try.prog 25 #[ptr g, .int .i64 most] w fun r w' =>
    r = .panicked (ups g) ∧ Gave w w' g e := by
  obtain ⟨v, k, x, hr⟩ : ∃ v k x, rdN Z 0 = (v, k, x) := ⟨_, _, _, rfl⟩
  have HM := hide (mayRead_live R.r)
  have HF := hide (firstC R hr)
  have HU := hide (giveUp_any R.r e)
  have x0 := R.r.c0
  unfold nmE at h
  rw [hr] at h
  simp only at h
  by_cases hx : x = 0
  · rw [if_neg (by simpa using hx)] at h
    have hm : most < v := by
      by_cases hm : most < v
      · exact hm
      · rw [if_neg hm] at h; exact absurd h.symm he
    rw [if_pos hm] at h
    subst hx
    subst h
    clear R hr he
    go_enter Try.func25, Try.ntmps25
    go_wp2_with fail
    refine HM.out.mono ?_
    rintro e w2 ⟨rfl, rfl⟩
    go_wp2_with fail
    refine HF.out.mono ?_
    rintro e w2 ⟨rfl, rfl⟩
    go_wp2_with fail
    refine HU.out.mono ?_
    rintro e w3 ⟨rfl, R3, K3⟩
    have HE : Hid (Gave w2 w3 g 51) := ⟨R3, K3⟩
    clear R3 K3
    go_wp2_with fail
    exact ⟨rfl, rfl, HE.out⟩
  · rw [if_pos (by simpa using hx)] at h
    subst h
    have h0 : (x != 0) = true := by simpa using hx
    clear R hr he hx
    go_enter Try.func25, Try.ntmps25
    go_wp2_with fail
    refine HM.out.mono ?_
    rintro e w2 ⟨rfl, rfl⟩
    go_wp2_with fail
    refine HF.out.mono ?_
    rintro e w2 ⟨rfl, rfl⟩
    go_wp2_with fail
    refine HU.out.mono ?_
    rintro e w3 ⟨rfl, R3, K3⟩
    have HE : Hid (Gave w2 w3 g x) := ⟨R3, K3⟩
    clear R3 K3
    go_wp2_with fail
    exact ⟨rfl, rfl, HE.out⟩
theorem left_any (R : Rdr w g ro rn rc gave over) : Calls Try.prog 30 #[ptr g] w fun r w' => r = .returned (.int .i64 (rn : Int)) ∧ w' = w := by
  have x0 := R.c0
  go_enter Try.func30, Try.ntmps30
  go_wp2_with fail
  go_ret
  exact ⟨rfl, rfl⟩
end Go.Proofs.Ytflinfmhmokfhaa
