/- The reference's Rounds. -/
import Derived.Test.YtckehmhieigglaaERs
namespace Go.Proofs.Ytckehmhieigglaa
open Go.RowKit
variable {w w' w2 : World} {g : Nat}

theorem infoSQ : (Try.prog.info? 24).map (fun i => (i.zero, i.size, i.bytes)) = some (some (.slice none 0 0), 1, 24) := by kernel_rfl
theorem RR.base {α : Type} {ρ : RowK α} {e : TypeId} {d : α} {w0 wr : World} {ao : Option Addr} {n c : Nat} {F : List Sl} {X : List α} (h : RR ρ e d w0 wr ao n c F X) : Below w0.heap.size w0 wr := h.newo.1
theorem mod_of {v a s n : Nat} (h : v % n = (a + s) % n) (hv : v < n) : (v : Int) = ((a : Int) + (s : Int)) % (n : Int) := by
  rw [Nat.mod_eq_of_lt hv] at h
  rw [h, Int.natCast_emod, Int.natCast_add]
theorem mod_sub {v n a s : Nat} (h : v % n = (a + s) % n) (hn : n ≤ v) : (v - n) % n = (a + s) % n := by
  rw [← h]
  exact (Nat.mod_eq_sub_mod hn).symm
def RnQ (w w' : World) (n : Nat) (e : Ending) : Prop := ∃ (bo : Option Addr) (c : Nat) (F : List Sl), e = .returned (.slice bo (cN n) c) ∧ RR rkQ 24 [] w w' bo (cN n) c F ((rsP n (cN n)).map (·.map toQ))
set_option maxRecDepth 100000 in
theorem refRounds_any (r : Int) (w : World) : Calls Try.prog 13 #[.int .i64 r] w fun e w' => RnQ w w' (clN r) e := by
  have HC := hide (reps_any r)
  have hn := (clN_le r).2
  have h1 := (clN_le r).1
  obtain ⟨n, hnn⟩ : ∃ n, clN r = n := ⟨_, rfl⟩
  rw [hnn] at HC hn h1 ⊢
  clear hnn
  have hn' : (n : Int) ≤ 16 := by omega
  go_enter Try.func13, Try.ntmps13
  go_wp2_with (go_at_call 28; refine (HC.out _).mono ?_; rintro e w2 ⟨rfl, rfl⟩)
  go_loopw [4, 5] (fun p i wr => ∃ (k s : Nat) (ao : Option Addr) (m c : Nat) (F : List Sl), k ≤ 4 ∧ s ≤ 16 ∧ i = .int .i64 s ∧ p = .slice ao m c ∧ Hid (s = 2 ^ k) ∧ Hid (m = k) ∧ Hid (k = 0 ∨ 2 ^ (k - 1) < n) ∧ Hid (RR rkQ 24 [] w wr ao m c F ((rsP n k).map (·.map toQ)))) (fun _ i _ => 17 - (intOf i).toNat)
  case atStart => exact ⟨0, 1, _, 0, 0, [], Nat.zero_le _, by omega, rfl, rfl, rfl, rfl, Or.inl rfl, RR.lit _ _ _ _⟩
  case round =>
    obtain ⟨k, s, ao, m, c, F, hk, hs, rfl, rfl, HS, HK, H2, HG⟩ := hrel
    by_cases hlt : s < n
    · have HP := hide (pow_le4 hn hk (by rw [← HS.out]; exact hlt))
      have hs15 : s ≤ 8 := by have := HP.out.2; rw [← HS.out] at this; exact this
      have hs0 : 1 ≤ s := by have h := Nat.two_pow_pos k; rw [← HS.out] at h; exact h
      have hs' : (s : Int) ≤ 8 := by omega
      go_wp2_with fail
      go_loopw [6, 7] (fun p i wi => ∃ (a : Nat) (bo : Option Addr) (q cc : Nat), a ≤ n ∧ i = .int .i64 a ∧ p = .slice bo q cc ∧ Hid (q = a) ∧ Hid (GrQ wr wi bo q cc ((roundP n s a).map toQ))) (fun _ i _ => n - (intOf i).toNat)
      case atStart => exact ⟨0, _, 0, 0, Nat.zero_le _, rfl, rfl, rfl, GrQ.lit wr⟩
      case round =>
        obtain ⟨a, bo, q, cc, ha, rfl, rfl, HQ, HI⟩ := hrel
        by_cases hl2 : a < n
        · have ha' : (a : Int) ≤ 16 := by omega
          go_wp2_with fail
          go_loop [8] (fun x => ∃ v : Nat, v ≤ 32 ∧ x = .int .i64 v ∧ Hid (v % n = (a + s) % n)) (fun x => (intOf x).toNat)
          case atStart => exact ⟨a + s, by omega, by go_num, rfl⟩
          case round =>
            obtain ⟨v, hv, rfl, HV⟩ := hrel
            have hv' : (v : Int) ≤ 32 := by omega
            by_cases hl3 : v < n
            · have HR := hide HI.out.r
              have HM : Hid (q + 1 ≤ 8796093022108) := by show _ ≤ _; have := HQ.out; omega
              have HT : Hid ((roundP n s (a + 1)).map toQ = (roundP n s a).map toQ ++ [⟨(a : Int), (v : Int)⟩]) := by
                show _ = _
                rw [roundP, List.map_append, mod_of HV.out hl3]
                rfl
              have hl3' : ¬ (n : Int) ≤ (v : Int) := by omega
              go_wp2_with (at_builtin; refine HR.out.app (L := [⟨(a : Int), (v : Int)⟩]) (m := 1) rfl (qcs_lit _ _) HM.out rfl (.tmp 30) (.tmp 34) rfl rfl rfl ?_; intro b4 c4 w4 R4 A4; have HI4 := hide (HI.out.app R4 A4); clear R4 A4)
              go_roundw
              case rel => exact ⟨a + 1, b4, q + 1, c4, by omega, by go_num, rfl, by show _ = _; rw [HQ.out], by show GrQ _ _ _ _ _ _; rw [HT.out]; exact HI4.out⟩
              case measure => simp [intOf]; omega
            · have HV2 := hide (mod_sub HV.out (by omega))
              have hl3' : (n : Int) ≤ (v : Int) := by omega
              go_wp2_with fail
              go_round
              case rel => exact ⟨v - n, by omega, by go_num, HV2⟩
              case measure => simp [intOf]; omega
        · obtain rfl : a = n := by omega
          have HO3 := hide ((HG.out.below HI.out.a.1).out)
          go_wp2_with (at_builtin; refine HO3.out.app (s := ⟨bo, q, cc⟩) infoSQ Try.underlying32 (by have := HK.out; omega) rfl (.tmp 36) (.tmp 38) rfl rfl rfl ?_; intro b4 c4 w4 R4 A4; have HG4 := hide (HG.out.push (ρ := rkQ) HI.out.r HI.out.a R4 A4); clear R4 A4)
          go_roundw
          case rel => exact ⟨k + 1, s + s, b4, m + 1, c4, _, HP.out.1, by omega, by go_num, rfl, by show _ = _; rw [HS.out, Nat.pow_succ]; omega, by show _ = _; rw [HK.out], Or.inr (by rw [Nat.add_sub_cancel, ← HS.out]; exact hlt), by show RR _ _ _ _ _ _ _ _ _ _; rw [rsP, ← HS.out, List.map_append]; exact HG4.out⟩
          case measure => simp [intOf]; omega
    · have HE := hide (cN_of hn hk H2.out (by rw [← HS.out]; exact hlt))
      go_wp2_with fail
      go_ret
      have hKm := HK.out
      subst hKm
      have hE := HE.out
      subst hE
      exact ⟨_, _, _, rfl, HG.out⟩
end Go.Proofs.Ytckehmhieigglaa
