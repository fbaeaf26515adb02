/- The check sums, and the reference's. -/
import Derived.Test.YtlplbhbjngpnbaaXBa
namespace Go.Proofs.Ytlplbhbjngpnbaa
open Go.RowKit
variable {w w' w2 : World} {g : Nat}

/-- the first sum, the second, and the second as the reference adds it up -/
def f1 (Z : List Int) : Nat → Int
  | 0 => 0
  | k + 1 => f1 Z k + Z.getD k 0
def f2 (Z : List Int) : Nat → Int
  | 0 => 0
  | k + 1 => f2 Z k + f1 Z (k + 1)
def r2 (Z : List Int) (n : Nat) : Nat → Int
  | 0 => 0
  | k + 1 => r2 Z n k + ((n : Int) - k) * Z.getD k 0
theorem r2_eq (Z : List Int) (n : Nat) : ∀ k, r2 Z n k = f2 Z k + ((n : Int) - k) * f1 Z k
  | 0 => by simp [r2, f2, f1]
  | k + 1 => by
    rw [r2, r2_eq Z n k, f2, f1]
    push_cast
    generalize f1 Z k = a
    generalize f2 Z k = b
    generalize Z.getD k 0 = z
    have h1 : ((n : Int) - k) * (a + z) = ((n : Int) - k) * a + ((n : Int) - k) * z := Int.mul_add _ _ _
    have h2 : ((n : Int) - (k + 1)) * (a + z) = ((n : Int) - k) * (a + z) - (a + z) := by rw [show (n : Int) - (k + 1) = ((n : Int) - k) - 1 by omega, Int.sub_mul, Int.one_mul]
    omega
theorem r2_full (Z : List Int) (n : Nat) : r2 Z n n = f2 Z n := by rw [r2_eq, Int.sub_self, Int.zero_mul, Int.add_zero]
/-- bytes in their bounds -/
def Oct (Z : List Int) : Prop := ∀ k, 0 ≤ Z.getD k 0 ∧ Z.getD k 0 ≤ 255
theorem f1_app (Z Y : List Int) : ∀ k, k ≤ Z.length → f1 (Z ++ Y) k = f1 Z k
  | 0, _ => rfl
  | k + 1, h => by
    rw [f1, f1, f1_app Z Y k (by omega)]
    congr 1
    rw [List.getD_eq_getElem?_getD, List.getD_eq_getElem?_getD, List.getElem?_append_left (by omega)]
theorem f2_app (Z Y : List Int) : ∀ k, k ≤ Z.length → f2 (Z ++ Y) k = f2 Z k
  | 0, _ => rfl
  | k + 1, h => by rw [f2, f2, f2_app Z Y k (by omega), f1_app Z Y (k + 1) h]
theorem BS.at {ao : Option Addr} {n c : Nat} {Z : List Int} (S : BS w ao n c Z) (k : Nat) (hk : k < n) : ∃ ad, ao = some ad ∧ w.cell? (ad.add k) = some (.int .u8 (Z.getD k 0)) := by
  cases ao with
  | none => have := (S.nil rfl).1; omega
  | some ad => exact ⟨ad, rfl, S.cell ad rfl k hk⟩
set_option maxRecDepth 100000 in
theorem sums_any (ao : Option Addr) (n c : Nat) (Z : List Int) (w : World) (S : BS w ao n c Z) (hZ : Oct Z) (hn : n ≤ 140737488355329) : Calls Try.prog 4 #[.slice ao n c] w fun r w' =>
    r = .returned (.tuple #[.int .i64 (f1 Z n % 4294967296), .int .i64 (f2 Z n % 4294967296)]) ∧ w' = w := by
  have HS := hide S
  have HZ := hide hZ
  have HN := hide hn
  clear S hn hZ
  go_enter Try.func4, Try.ntmps4
  go_wp2_with fail
  go_loopw [4, 5, 10] (fun x y i wr => ∃ (k : Nat) (p q : Int), k ≤ n ∧ x = .int .u32 p ∧ y = .int .u32 q ∧ i = .int .i64 k ∧ Hid (p = f1 Z k % 4294967296 ∧ q = f2 Z k % 4294967296) ∧ wr = w) (fun _ _ i _ => n - (intOf i).toNat)
  case atStart => exact ⟨0, 0, 0, Nat.zero_le _, rfl, rfl, rfl, ⟨rfl, rfl⟩, rfl⟩
  case round =>
    obtain ⟨k, p, q, hk, rfl, rfl, rfl, HP, rfl⟩ := hrel
    by_cases hlt : k < n
    · have HK1 : Hid (wrap64 ((k : Int) + 1) = ((k + 1 : Nat) : Int)) := by show _ = _; have := HN.out; rw [w64 (by omega) (by omega)]; rfl
      have HLT := hide hlt
      obtain ⟨ad, rfl, c1⟩ := HS.out.at k hlt
      obtain ⟨z, hz⟩ : ∃ z, Z.getD k 0 = z := ⟨_, rfl⟩
      have HZZ : Hid (Z.getD k 0 = z ∧ 0 ≤ z ∧ z ≤ 255) := ⟨hz, by rw [← hz]; exact HZ.out k⟩
      rw [hz] at c1
      clear hz
      go_wp2_with fail
      go_roundw
      case rel => exact ⟨k + 1, _, _, HLT.out, rfl, rfl, by rw [HK1.out], ⟨by rw [f1, HZZ.out.1, HP.out.1]; omega, by rw [f2, f1, HZZ.out.1, HP.out.1, HP.out.2]; omega⟩, trivial⟩
      case measure => rw [HK1.out]; have := HLT.out; simp [intOf]; omega
    · obtain ⟨rfl, -⟩ : k = n ∧ True := ⟨by omega, trivial⟩
      have ep : wrap64 p = p := by have := HP.out.1; rw [w64 (by omega) (by omega)]
      have eq : wrap64 q = q := by have := HP.out.2; rw [w64 (by omega) (by omega)]
      go_wp2_with fail
      go_ret2
      exact ⟨by rw [← HP.out.1, ← HP.out.2]; show Ending.returned (Value.tuple #[.int .i64 (wrap64 p), .int .i64 (wrap64 q)]) = _; rw [ep, eq], rfl⟩
theorem ref_p {Z : List Int} {k : Nat} {p z : Int} (hp : p = f1 Z k % 4294967296) (hz : Z.getD k 0 = z) (h0 : 0 ≤ z) (h1 : z ≤ 255) : (wrap64 (p + wrap64 z)).tmod 4294967296 = f1 Z (k + 1) % 4294967296 := by
  rw [w64 (x := z) (by omega) (by omega), w64 (by omega) (by omega), Int.tmod_eq_emod_of_nonneg (by omega), f1, hz, hp]
  omega
theorem ref_q {Z : List Int} {n k : Nat} {q z : Int} (hq : q = r2 Z n k % 4294967296) (hz : Z.getD k 0 = z) (h0 : 0 ≤ z) (h1 : z ≤ 255) (hk : k < n) (hn : n ≤ 140737488355329) : (wrap64 (q + wrap64 ((wrap64 ((n : Int) - k)).tmod 4294967296 * wrap64 z))).tmod 4294967296 = r2 Z n (k + 1) % 4294967296 := by
  rw [w64 (x := z) (by omega) (by omega), w64 (x := (n : Int) - k) (by omega) (by omega), Int.tmod_eq_emod_of_nonneg (a := (n : Int) - k) (by omega), r2, hz]
  obtain ⟨x, hx⟩ : ∃ x, (n : Int) - k = x := ⟨_, rfl⟩
  rw [hx]
  have e : x * z = 4294967296 * (x / 4294967296 * z) + x % 4294967296 * z := by
    rw [← Int.mul_assoc, ← Int.add_mul, Int.mul_ediv_add_emod]
  have m1 : 0 ≤ x % 4294967296 * z := Int.mul_nonneg (Int.emod_nonneg _ (by decide)) h0
  have m2 : x % 4294967296 * z ≤ 4294967296 * 255 := Int.mul_le_mul (Int.le_of_lt (Int.emod_lt_of_pos _ (by decide))) h1 h0 (by decide)
  rw [e]
  generalize x % 4294967296 * z = u at m1 m2
  generalize x / 4294967296 * z = t
  rw [w64 (x := u) (by omega) (by omega), w64 (by omega) (by omega), Int.tmod_eq_emod_of_nonneg (by omega), hq]
  omega
set_option maxRecDepth 100000 in
theorem refSums_any (ao : Option Addr) (n c : Nat) (Z : List Int) (w : World) (S : BS w ao n c Z) (hZ : Oct Z) (hn : n ≤ 140737488355329) : Calls Try.prog 5 #[.slice ao n c] w fun r w' =>
    r = .returned (.tuple #[.int .i64 (f1 Z n % 4294967296), .int .i64 (f2 Z n % 4294967296)]) ∧ w' = w := by
  have HS := hide S
  have HZ := hide hZ
  have HN := hide hn
  clear S hn hZ
  go_enter Try.func5, Try.ntmps5
  go_wp2_with fail
  go_loopw [4, 5, 6] (fun x y i wr => ∃ (k : Nat) (p q : Int), k ≤ n ∧ x = .int .i64 p ∧ y = .int .i64 q ∧ i = .int .i64 k ∧ Hid (p = f1 Z k % 4294967296 ∧ q = r2 Z n k % 4294967296) ∧ wr = w) (fun _ _ i _ => n - (intOf i).toNat)
  case atStart => exact ⟨0, 0, 0, Nat.zero_le _, rfl, rfl, rfl, ⟨rfl, rfl⟩, rfl⟩
  case round =>
    obtain ⟨k, p, q, hk, rfl, rfl, rfl, HP, rfl⟩ := hrel
    by_cases hlt : k < n
    · have HK1 : Hid (wrap64 ((k : Int) + 1) = ((k + 1 : Nat) : Int)) := by show _ = _; have := HN.out; rw [w64 (by omega) (by omega)]; rfl
      have HLT := hide hlt
      obtain ⟨ad, rfl, c1⟩ := HS.out.at k hlt
      obtain ⟨z, hz⟩ : ∃ z, Z.getD k 0 = z := ⟨_, rfl⟩
      have HZZ : Hid (Z.getD k 0 = z ∧ 0 ≤ z ∧ z ≤ 255) := ⟨hz, by rw [← hz]; exact HZ.out k⟩
      rw [hz] at c1
      clear hz
      go_wp2_with fail
      go_roundw
      case rel => exact ⟨k + 1, _, _, HLT.out, rfl, rfl, by rw [HK1.out], ⟨ref_p HP.out.1 HZZ.out.1 HZZ.out.2.1 HZZ.out.2.2, ref_q HP.out.2 HZZ.out.1 HZZ.out.2.1 HZZ.out.2.2 HLT.out HN.out⟩, trivial⟩
      case measure => rw [HK1.out]; have := HLT.out; simp [intOf]; omega
    · obtain ⟨rfl, -⟩ : k = n ∧ True := ⟨by omega, trivial⟩
      go_wp2_with fail
      go_ret2
      exact ⟨by rw [HP.out.1, HP.out.2, r2_full]; rfl, rfl⟩
end Go.Proofs.Ytlplbhbjngpnbaa
