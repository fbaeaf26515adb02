/- settle.Pairs and the reference's. -/
import Derived.Test.YtinicdnpkihbkaaEPr
namespace Go.Proofs.Ytinicdnpkihbkaa
open Go.RowKit
variable {w w' w2 : World} {g : Nat}

theorem pcs_lit (f t : Int) : (#[Value.int .i64 f, Value.int .i64 t] : Array Value).toList = pcs [⟨f, t⟩] := rfl
theorem qcs_lit (f t : Int) : (#[Value.int .i64 f, Value.int .i64 t] : Array Value).toList = qcs [⟨f, t⟩] := rfl
theorem pairs_room (n k : Nat) (h1 : n ≤ 16) (h2 : k ≤ n) : (pairsP n k).length ≤ 256 := by
  have := pairsP_len n k
  have : k * n ≤ 16 * 16 := Nat.mul_le_mul (by omega) h1
  omega
/-- a row of pairs that grows from nothing -/
structure GrP (w wr : World) (ao : Option Addr) (m c : Nat) (L : List Pr) : Prop where
  r : PR wr ao m c L
  a : Ap w wr none ao
theorem GrP.app {wr w2 : World} {ao bo : Option Addr} {m c c2 k : Nat} {L M : List Pr} (h : GrP w wr ao m c L) (hr : PR w2 bo (m + k) c2 (L ++ M)) (ha : Ap wr w2 ao bo) : GrP w w2 bo (m + k) c2 (L ++ M) := ⟨hr, h.a.trans ha⟩
set_option maxRecDepth 100000 in
theorem pairs_any (r : Int) (w : World) : Calls Try.prog 7 #[.int .i64 r] w fun e w' =>
    ∃ bo m c, e = .returned (.slice bo m c) ∧ PR w' bo m c (pairsP (clN r) (clN r)) ∧ NewB w w' bo := by
  have HC := hide (clamped_any r)
  have hn := (clN_le r).2
  obtain ⟨n, hnn⟩ : ∃ n, clN r = n := ⟨_, rfl⟩
  rw [hnn] at HC hn ⊢
  clear hnn
  go_enter Try.func7, Try.ntmps7
  go_wp2_with (go_at_call 20; refine (HC.out _).mono ?_; rintro e w2 ⟨rfl, rfl⟩)
  go_loopw [4, 10] (fun p i wr => ∃ (k : Nat) (ao : Option Addr) (m c : Nat), k ≤ n ∧ i = .int .i64 k ∧ p = .slice ao m c ∧ Hid (GrP w wr ao m c (pairsP n k))) (fun _ i _ => n - (intOf i).toNat)
  case atStart => exact ⟨0, none, 0, 0, Nat.zero_le _, rfl, rfl, PR.nil _, Ap.refl _ _⟩
  case round =>
    obtain ⟨k, ao, m, c, hk, rfl, rfl, HG⟩ := hrel
    by_cases hlt : k < n
    · go_wp2_with fail
      go_loopw [4, 14] (fun p i wi => ∃ (j : Nat) (ao : Option Addr) (m c : Nat), j ≤ n ∧ i = .int .i64 j ∧ p = .slice ao m c ∧ Hid (GrP w wi ao m c (pairsP n k ++ rowP k j))) (fun _ i _ => n - (intOf i).toNat)
      case atStart => exact ⟨0, ao, m, c, Nat.zero_le _, rfl, rfl, by show GrP _ _ _ _ _ _; rw [rowP, List.append_nil]; exact HG.out⟩
      case round =>
        clear HG
        obtain ⟨j, ao, m, c, hj, rfl, rfl, HG⟩ := hrel
        by_cases hl2 : j < n
        · by_cases he : k = j
          · have HE : Hid (GrP w wr ao m c (pairsP n k ++ rowP k (j + 1))) := by
              show GrP _ _ _ _ _ _
              rw [rowP, if_pos he]
              exact HG.out
            subst he
            go_wp2_with fail
            go_roundw
            case rel => exact ⟨k + 1, ao, m, c, by omega, by go_num, rfl, HE⟩
            case measure => simp [intOf]; omega
          · have HR := hide HG.out.r
            have HM : Hid (m + 1 ≤ 8796093022108) := by
              show _ ≤ _
              have h1 := HR.out.len
              rw [List.length_append] at h1
              have h2 := rowP_len k j
              have h3 := pairs_room n k hn hk
              omega
            have HS : Hid (rowP k (j + 1) = rowP k j ++ [⟨(k : Int), (j : Int)⟩]) := by show _ = _; rw [rowP, if_neg he]
            have hne : ¬ (k : Int) = (j : Int) := by omega
            go_wp2_with (at_builtin; refine HR.out.app (L := [⟨(k : Int), (j : Int)⟩]) (m := 1) rfl (pcs_lit _ _) HM.out rfl (.tmp 20) (.tmp 24) rfl rfl rfl ?_; intro bo c2 w3 R3 A3; have HG3 := hide (HG.out.app R3 A3); clear R3 A3)
            go_roundw
            case rel => exact ⟨j + 1, bo, m + 1, c2, by omega, by go_num, rfl, by show GrP _ _ _ _ _ _; rw [HS.out, ← List.append_assoc]; exact HG3.out⟩
            case measure => simp [intOf]; omega
        · obtain rfl : j = n := by omega
          go_wp2_with fail
          go_roundw
          case rel => exact ⟨k + 1, ao, m, c, by omega, by go_num, rfl, HG⟩
          case measure => simp [intOf]; omega
    · obtain rfl : k = n := by omega
      go_wp2_with fail
      go_ret
      exact ⟨_, _, _, rfl, HG.out.r, NewB.of_ap HG.out.a⟩
end Go.Proofs.Ytinicdnpkihbkaa
