/- The law's markOps: the walk. -/
import Derived.Test.YtinicdnpkihbkaaEMo
namespace Go.Proofs.Ytinicdnpkihbkaa
open Go.RowKit
variable {w w1 w2 w3 wr : World}
attribute [local go_sem ↓] ldO_eq stO_eq
def fA (j : Nat) : Int := 1000 + (j : Int)
def fB (j : Nat) : Int := -1000 - (j : Int)
set_option maxRecDepth 100000 in
set_option maxHeartbeats 1600000 in
theorem markOps_any (ao : Option Addr) (n c : Nat) (A : List Opp) (bo : Option Addr) (m d : Nat) (B : List Opp) (w wr : World) (HO : O2 w wr ao n c A bo m d B) (hn : n ≤ 1048576) (hm : m ≤ 1048576) :
    Calls Try.prog 27 #[.slice ao n c, .slice bo m d] wr fun e w' => e = .returned (.bool true) ∧ Below w.heap.size w w' := by
  have HO0 := hide HO
  have HA0 : Hid (K1 A n 0 fA) := ⟨HO.ra.len, fun j hj => by omega⟩
  have HB0 : Hid (K1 B m 0 fB) := ⟨HO.rb.len, fun j hj => by omega⟩
  have hn' : (n : Int) ≤ 1048576 := by omega
  have hm' : (m : Int) ≤ 1048576 := by omega
  clear HO
  go_enter Try.func27, Try.ntmps27
  go_wp2_with fail
  go_loopw [19] (fun i wr => ∃ (k : Nat) (A : List Opp), k ≤ n ∧ i = .int .i64 k ∧ Hid (K1 A n k fA) ∧ Hid (O2 w wr ao n c A bo m d B)) (fun i _ => n - (intOf i).toNat)
  case atStart => exact ⟨0, _, Nat.zero_le _, rfl, HA0, HO0⟩
  case round =>
    clear HO0 HA0
    obtain ⟨k, A, hk, rfl, HK, HO⟩ := hrel
    by_cases hlt : k < n
    · obtain ⟨fb, w5, rfl, hst, R5, A5⟩ := HO.out.ra.put k hlt (opk (1000 + (k : Int)) 0)
      have hst' : (stO (.pointer (some ⟨fb, k * 7, none⟩)) (.agg #[.int .i64 (1000 + (k : Int)), .int .i64 0, .int .i64 0, .int .i64 0, .string ⟨#[]⟩, .int .i64 0, .int .i64 (0)])).run Try.prog wr = .ok () w5 := hst
      have HO5 := hide (HO.out.ap R5 A5)
      have HK5 := hide (HK.out.next hlt)
      have hk' : (k : Int) ≤ 1048576 := by omega
      clear hst R5 A5 HO HK
      go_wp2_with fail
      go_roundw
      case rel => exact ⟨k + 1, _, by omega, by go_num, HK5, HO5⟩
      case measure => simp [intOf]; omega
    · obtain hkn : k = n := by omega
      rw [hkn] at HK
      clear hkn
      go_wp2_with fail
      have HO1 := HO
      clear HO
      have HKa := HK
      clear HK
      go_loopw [31] (fun i wr => ∃ (k : Nat) (B : List Opp), k ≤ m ∧ i = .int .i64 k ∧ Hid (K1 B m k fB) ∧ Hid (O2 w wr ao n c A bo m d B)) (fun i _ => m - (intOf i).toNat)
      case atStart => exact ⟨0, _, Nat.zero_le _, rfl, HB0, HO1⟩
      case round =>
        clear HO1 HB0
        obtain ⟨k, B, hk, rfl, HK, HO⟩ := hrel
        by_cases hlt : k < m
        · obtain ⟨fb, w5, rfl, hst, R5, A5⟩ := HO.out.rb.put k hlt (opk (-1000 - (k : Int)) 0)
          have hst' : (stO (.pointer (some ⟨fb, k * 7, none⟩)) (.agg #[.int .i64 (-1000 - (k : Int)), .int .i64 0, .int .i64 0, .int .i64 0, .string ⟨#[]⟩, .int .i64 0, .int .i64 (0)])).run Try.prog wr = .ok () w5 := hst
          have HO5 := hide ((HO.out.swap.ap R5 A5).swap)
          have HK5 := hide (HK.out.next hlt)
          have hk' : (k : Int) ≤ 1048576 := by omega
          clear hst R5 A5 HO HK
          go_wp2_with fail
          go_roundw
          case rel => exact ⟨k + 1, _, by omega, by go_num, HK5, HO5⟩
          case measure => simp [intOf]; omega
        · obtain hkn : k = m := by omega
          rw [hkn] at HK
          clear hkn
          go_wp2_with fail
          have HKb := HK
          clear HK
          have HK := HKa
          go_loopw [0, 9] (fun p i wr => ∃ (k : Nat) (ao1 : Option Addr) (an1 ac1 : Nat) (A1 : List Opp), k ≤ 80 ∧ i = .int .i64 k ∧ p = .slice ao1 an1 ac1 ∧ Hid (an1 = n + k) ∧ Hid (K2 A1 n k fA 2) ∧ Hid (O2 w wr ao1 an1 ac1 A1 bo m d B)) (fun _ i _ => 80 - (intOf i).toNat)
          case atStart => exact ⟨0, _, _, _, _, Nat.zero_le _, rfl, rfl, rfl, HK.out.k2, HO⟩
          case round =>
            clear HO HK
            obtain ⟨k, ao1, an1, ac1, A1, hk, rfl, rfl, HX, HK, HO⟩ := hrel
            by_cases hlt : k < 80
            · have HR := hide HO.out.ra
              have HN : Hid (an1 + 1 ≤ 2199023255452) := by show _ ≤ _; have := HX.out; omega
              have HK5 := hide (HK.out.next (k : Int) (fun e => by omega))
              have hk' : (k : Int) ≤ 80 := by omega
              go_wp2_with (at_builtin; refine HR.out.app (L := [opk 2 (k : Int)]) (m := 1) rfl (opk_lit _ _) HN.out rfl (.tmp 45) (.tmp 48) rfl rfl rfl ?_; intro b5 c5 w5 R5 A5; have HO5 := hide (HO.out.ap R5 A5); clear R5 A5)
              go_roundw
              case rel => exact ⟨k + 1, b5, an1 + 1, c5, _, by omega, by go_num, rfl, by show _ = _; rw [HX.out]; rfl, HK5, HO5⟩
              case measure => simp [intOf]; omega
            · obtain hkn : k = 80 := by omega
              rw [hkn] at HK HX
              clear hkn
              have HKA := HK; have HXA := HX
              go_wp2_with fail
              clear HK HX
              have HK := HKb
              go_loopw [1, 10] (fun p i wr => ∃ (k : Nat) (xo : Option Addr) (xn xc : Nat) (X : List Opp), k ≤ 80 ∧ i = .int .i64 k ∧ p = .slice xo xn xc ∧ Hid (xn = m + k) ∧ Hid (K2 X m k fB 3) ∧ Hid (O2 w wr ao1 an1 ac1 A1 xo xn xc X)) (fun _ i _ => 80 - (intOf i).toNat)
              case atStart => exact ⟨0, _, _, _, _, Nat.zero_le _, rfl, rfl, rfl, HK.out.k2, HO⟩
              case round =>
                clear HO HK
                obtain ⟨k, xo, xn, xc, X, hk, rfl, rfl, HX, HK, HO⟩ := hrel
                by_cases hlt : k < 80
                · have HR := hide HO.out.rb
                  have HN : Hid (xn + 1 ≤ 2199023255452) := by show _ ≤ _; have := HX.out; omega
                  have HK5 := hide (HK.out.next (k : Int) (fun e => by omega))
                  have hk' : (k : Int) ≤ 80 := by omega
                  go_wp2_with (at_builtin; refine HR.out.app (L := [opk 3 (k : Int)]) (m := 1) rfl (opk_lit _ _) HN.out rfl (.tmp 54) (.tmp 57) rfl rfl rfl ?_; intro b5 c5 w5 R5 A5; have HO5 := hide ((HO.out.swap.ap R5 A5).swap); clear R5 A5)
                  go_roundw
                  case rel => exact ⟨k + 1, b5, xn + 1, c5, _, by omega, by go_num, rfl, by show _ = _; rw [HX.out]; rfl, HK5, HO5⟩
                  case measure => simp [intOf]; omega
                · obtain hkn : k = 80 := by omega
                  rw [hkn] at HK HX
                  clear hkn
                  have HKB := HK; have HXB := HX
                  go_wp2_with fail
                  clear HK HX
                  go_loopw [11] (fun i wi => ∃ k : Nat, k ≤ n ∧ i = .int .i64 k ∧ wr = wi) (fun i _ => n - (intOf i).toNat)
                  case atStart => exact ⟨0, Nat.zero_le _, rfl, rfl⟩
                  case round =>
                    obtain ⟨k, hk, rfl, rfl⟩ := hrel
                    by_cases hlt : k < n
                    · have hkx : k < an1 := by have := HXA.out; omega
                      obtain ⟨fb, rfl, x⟩ := HO.out.ra.at k hkx
                      rw [HKA.out.row k hlt] at x
                      have x0 : (ldO (.pointer (some ⟨fb, k * 7, none⟩))).run Try.prog wr = .ok (.agg #[.int .i64 (1000 + (k : Int)), .int .i64 0, .int .i64 0, .int .i64 0, .string ⟨#[]⟩, .int .i64 0, .int .i64 (0)]) wr := run_laO x
                      have e1 : ∀ w : World, (binOp .neq 43 (.agg #[.int .i64 (1000 + (k : Int)), .int .i64 0, .int .i64 0, .int .i64 0, .string ⟨#[]⟩, .int .i64 0, .int .i64 (0)]) (.agg #[.int .i64 (1000 + (k : Int)), .int .i64 0, .int .i64 0, .int .i64 0, .string ⟨#[]⟩, .int .i64 0, .int .i64 (0)])).run Try.prog w = .ok (.bool false) w := run_neO (opk (1000 + (k : Int)) 0)
                      have e2 : ∀ (o p : Operand) (w : World), (eqGuard .neq 43 o p (.agg #[.int .i64 (1000 + (k : Int)), .int .i64 0, .int .i64 0, .int .i64 0, .string ⟨#[]⟩, .int .i64 0, .int .i64 (0)]) (.agg #[.int .i64 (1000 + (k : Int)), .int .i64 0, .int .i64 0, .int .i64 0, .string ⟨#[]⟩, .int .i64 0, .int .i64 (0)])).run Try.prog w = .ok () w := run_egO (opk (1000 + (k : Int)) 0)
                      have hk' : (k : Int) ≤ 1048576 := by omega
                      clear x
                      go_wp2_with fail
                      go_roundw
                      case rel => exact ⟨k + 1, by omega, by go_num, trivial⟩
                      case measure => simp [intOf]; omega
                    · go_wp2_with fail
                      go_loopw [12] (fun i wi => ∃ k : Nat, k ≤ m ∧ i = .int .i64 k ∧ wr = wi) (fun i _ => m - (intOf i).toNat)
                      case atStart => exact ⟨0, Nat.zero_le _, rfl, rfl⟩
                      case round =>
                        obtain ⟨k, hk, rfl, rfl⟩ := hrel
                        by_cases hlt : k < m
                        · have hkx : k < xn := by have := HXB.out; omega
                          obtain ⟨fb, rfl, x⟩ := HO.out.rb.at k hkx
                          rw [HKB.out.row k hlt] at x
                          have x0 : (ldO (.pointer (some ⟨fb, k * 7, none⟩))).run Try.prog wr = .ok (.agg #[.int .i64 (-1000 - (k : Int)), .int .i64 0, .int .i64 0, .int .i64 0, .string ⟨#[]⟩, .int .i64 0, .int .i64 (0)]) wr := run_laO x
                          have e1 : ∀ w : World, (binOp .neq 43 (.agg #[.int .i64 (-1000 - (k : Int)), .int .i64 0, .int .i64 0, .int .i64 0, .string ⟨#[]⟩, .int .i64 0, .int .i64 (0)]) (.agg #[.int .i64 (-1000 - (k : Int)), .int .i64 0, .int .i64 0, .int .i64 0, .string ⟨#[]⟩, .int .i64 0, .int .i64 (0)])).run Try.prog w = .ok (.bool false) w := run_neO (opk (-1000 - (k : Int)) 0)
                          have e2 : ∀ (o p : Operand) (w : World), (eqGuard .neq 43 o p (.agg #[.int .i64 (-1000 - (k : Int)), .int .i64 0, .int .i64 0, .int .i64 0, .string ⟨#[]⟩, .int .i64 0, .int .i64 (0)]) (.agg #[.int .i64 (-1000 - (k : Int)), .int .i64 0, .int .i64 0, .int .i64 0, .string ⟨#[]⟩, .int .i64 0, .int .i64 (0)])).run Try.prog w = .ok () w := run_egO (opk (-1000 - (k : Int)) 0)
                          have hk' : (k : Int) ≤ 1048576 := by omega
                          clear x
                          go_wp2_with fail
                          go_roundw
                          case rel => exact ⟨k + 1, by omega, by go_num, trivial⟩
                          case measure => simp [intOf]; omega
                        · have hna : an1 = n + 80 := HXA.out
                          have hnb : xn = m + 80 := HXB.out
                          obtain ⟨fb, rfl, x⟩ := HO.out.ra.at n (by omega)
                          rw [HKA.out.end' (by omega)] at x
                          obtain ⟨gb, rfl, y⟩ := HO.out.rb.at m (by omega)
                          rw [HKB.out.end' (by omega)] at y
                          have x0 : (ldO (.pointer (some ⟨fb, n * 7, none⟩))).run Try.prog wr = .ok (.agg #[.int .i64 (2), .int .i64 0, .int .i64 0, .int .i64 0, .string ⟨#[]⟩, .int .i64 0, .int .i64 (0)]) wr := run_laO x
                          have y0 : (ldO (.pointer (some ⟨gb, m * 7, none⟩))).run Try.prog wr = .ok (.agg #[.int .i64 (3), .int .i64 0, .int .i64 0, .int .i64 0, .string ⟨#[]⟩, .int .i64 0, .int .i64 (0)]) wr := run_laO y
                          have e1 : ∀ w : World, (binOp .eql 43 (.agg #[.int .i64 (2), .int .i64 0, .int .i64 0, .int .i64 0, .string ⟨#[]⟩, .int .i64 0, .int .i64 (0)]) (.agg #[.int .i64 (2), .int .i64 0, .int .i64 0, .int .i64 0, .string ⟨#[]⟩, .int .i64 0, .int .i64 (0)])).run Try.prog w = .ok (.bool true) w := run_eqOk (opk 2 0)
                          have e2 : ∀ (o p : Operand) (w : World), (eqGuard .eql 43 o p (.agg #[.int .i64 (2), .int .i64 0, .int .i64 0, .int .i64 0, .string ⟨#[]⟩, .int .i64 0, .int .i64 (0)]) (.agg #[.int .i64 (2), .int .i64 0, .int .i64 0, .int .i64 0, .string ⟨#[]⟩, .int .i64 0, .int .i64 (0)])).run Try.prog w = .ok () w := run_egOk (opk 2 0)
                          have e3 : ∀ w : World, (binOp .eql 43 (.agg #[.int .i64 (3), .int .i64 0, .int .i64 0, .int .i64 0, .string ⟨#[]⟩, .int .i64 0, .int .i64 (0)]) (.agg #[.int .i64 (3), .int .i64 0, .int .i64 0, .int .i64 0, .string ⟨#[]⟩, .int .i64 0, .int .i64 (0)])).run Try.prog w = .ok (.bool true) w := run_eqOk (opk 3 0)
                          have e4 : ∀ (o p : Operand) (w : World), (eqGuard .eql 43 o p (.agg #[.int .i64 (3), .int .i64 0, .int .i64 0, .int .i64 0, .string ⟨#[]⟩, .int .i64 0, .int .i64 (0)]) (.agg #[.int .i64 (3), .int .i64 0, .int .i64 0, .int .i64 0, .string ⟨#[]⟩, .int .i64 0, .int .i64 (0)])).run Try.prog w = .ok () w := run_egOk (opk 3 0)
                          have hna' : (an1 : Int) = (n : Int) + 80 := by omega
                          have hn1 : n < an1 := by omega
                          have hm1 : m < xn := by omega
                          have HBe := hide HO.out.na.1
                          clear x y hna hnb HXA HXB HO
                          go_wp2_with fail
                          go_ret
                          exact ⟨rfl, HBe.out⟩
end Go.Proofs.Ytinicdnpkihbkaa
