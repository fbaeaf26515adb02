/- FUs -/
import Derived.Test.YtnghfnhpjdafmaaBk40
namespace Go.Proofs.Ytnghfnhpjdafmaa
open Go.RowKit

theorem unF_ge {n b v : Nat} {t : List Int} (hv : v < 32) (h : 8 ≤ n + 5) : unF n b (lt32 v :: t) = (unF (n - 3) ((b * 32 + v) % 2 ^ (n - 3)) t).map ((((b * 32 + v) / 2 ^ (n - 3) : Nat) : Int) :: ·) := by
  rw [unF, valF_lt32 v hv, if_neg (by omega), if_pos h, Int.toNat_natCast]
theorem unF_lt {n b v : Nat} {t : List Int} (hv : v < 32) (h : ¬ 8 ≤ n + 5) : unF n b (lt32 v :: t) = unF (n + 5) (b * 32 + v) t := by
  rw [unF, valF_lt32 v hv, if_neg (by omega), if_neg h, Int.toNat_natCast]
theorem emit8 (x : Nat) : emit 8 x = ([lt32 (x / 8)], x % 8) := by rw [emit_ge (by decide), emit_lt (by decide)]
theorem emit9 (x : Nat) : emit 9 x = ([lt32 (x / 16)], x % 16) := by rw [emit_ge (by decide), emit_lt (by decide)]
theorem emit10 (x : Nat) : emit 10 x = ([lt32 (x / 32), lt32 (x % 32)], 0) := by
  rw [emit_ge (by decide), emit_ge (by decide), emit_lt (by decide)]
  show ([lt32 (x / 32), lt32 (x % 32 / 1)], x % 32 % 1) = _
  rw [Nat.div_one, Nat.mod_one]
theorem emit11 (x : Nat) : emit 11 x = ([lt32 (x / 64), lt32 (x % 64 / 2)], x % 64 % 2) := by rw [emit_ge (by decide), emit_ge (by decide), emit_lt (by decide)]
theorem emit12 (x : Nat) : emit 12 x = ([lt32 (x / 128), lt32 (x % 128 / 4)], x % 128 % 4) := by rw [emit_ge (by decide), emit_ge (by decide), emit_lt (by decide)]
theorem un_all : ∀ (Y : List Int), (∀ x ∈ Y, 0 ≤ x ∧ x ≤ 255) →
    unF 0 0 (spellF 0 0 Y) = some Y ∧ (∀ h b : Nat, h < 128 → b < 2 → unF 7 h (spellF 1 b Y) = some (((h * 2 + b : Nat) : Int) :: Y)) ∧ (∀ h b : Nat, h < 64 → b < 4 → unF 6 h (spellF 2 b Y) = some (((h * 4 + b : Nat) : Int) :: Y)) ∧ (∀ h b : Nat, h < 32 → b < 8 → unF 5 h (spellF 3 b Y) = some (((h * 8 + b : Nat) : Int) :: Y)) ∧ (∀ h b : Nat, h < 16 → b < 16 → unF 4 h (spellF 4 b Y) = some (((h * 16 + b : Nat) : Int) :: Y))
  | [], _ => by
    refine ⟨rfl, fun h b hh hb => ?_, fun h b hh hb => ?_, fun h b hh hb => ?_, fun h b hh hb => ?_⟩
    · rw [show spellF 1 b [] = [lt32 (b * 16)] from rfl, unF_ge (by omega) (by decide)]
      show some [(((h * 32 + b * 16) / 16 : Nat) : Int)] = _
      rw [show (h * 32 + b * 16) / 16 = h * 2 + b by omega]
    · rw [show spellF 2 b [] = [lt32 (b * 8)] from rfl, unF_ge (by omega) (by decide)]
      show some [(((h * 32 + b * 8) / 8 : Nat) : Int)] = _
      rw [show (h * 32 + b * 8) / 8 = h * 4 + b by omega]
    · rw [show spellF 3 b [] = [lt32 (b * 4)] from rfl, unF_ge (by omega) (by decide)]
      show some [(((h * 32 + b * 4) / 4 : Nat) : Int)] = _
      rw [show (h * 32 + b * 4) / 4 = h * 8 + b by omega]
    · rw [show spellF 4 b [] = [lt32 (b * 2)] from rfl, unF_ge (by omega) (by decide)]
      show some [(((h * 32 + b * 2) / 2 : Nat) : Int)] = _
      rw [show (h * 32 + b * 2) / 2 = h * 16 + b by omega]
  | c :: t, hY => by
    obtain ⟨i0, i1, i2, i3, i4⟩ := un_all t (fun x hx => hY x (List.mem_cons_of_mem _ hx))
    obtain ⟨y, rfl⟩ : ∃ y : Nat, c = (y : Int) := ⟨c.toNat, by have := hY c List.mem_cons_self; omega⟩
    have hy : y < 256 := by have := hY y List.mem_cons_self; omega
    refine ⟨?_, fun h b hh hb => ?_, fun h b hh hb => ?_, fun h b hh hb => ?_, fun h b hh hb => ?_⟩
    · rw [spellF, Int.toNat_natCast, show 0 + 8 = 8 from rfl, emit8]
      show unF 0 0 (lt32 ((0 * 256 + y) / 8) :: spellF 3 ((0 * 256 + y) % 8) t) = _
      rw [unF_lt (by omega) (by decide), i3 _ _ (by omega) (by omega), show (0 * 32 + (0 * 256 + y) / 8) * 8 + (0 * 256 + y) % 8 = y by omega]
    · rw [spellF, Int.toNat_natCast, show 1 + 8 = 9 from rfl, emit9]
      show unF 7 h (lt32 ((b * 256 + y) / 16) :: spellF 4 ((b * 256 + y) % 16) t) = _
      rw [unF_ge (by omega) (by decide)]
      show (unF 4 ((h * 32 + (b * 256 + y) / 16) % 16) (spellF 4 ((b * 256 + y) % 16) t)).map ((((h * 32 + (b * 256 + y) / 16) / 16 : Nat) : Int) :: ·) = _
      rw [i4 _ _ (by omega) (by omega), Option.map_some, show (h * 32 + (b * 256 + y) / 16) / 16 = h * 2 + b by omega, show (h * 32 + (b * 256 + y) / 16) % 16 * 16 + (b * 256 + y) % 16 = y by omega]
    · rw [spellF, Int.toNat_natCast, show 2 + 8 = 10 from rfl, emit10]
      show unF 6 h (lt32 ((b * 256 + y) / 32) :: lt32 ((b * 256 + y) % 32) :: spellF 0 0 t) = _
      rw [unF_ge (by omega) (by decide)]
      show (unF 3 ((h * 32 + (b * 256 + y) / 32) % 8) (lt32 ((b * 256 + y) % 32) :: spellF 0 0 t)).map ((((h * 32 + (b * 256 + y) / 32) / 8 : Nat) : Int) :: ·) = _
      rw [unF_ge (by omega) (by decide)]
      show ((unF 0 (((h * 32 + (b * 256 + y) / 32) % 8 * 32 + (b * 256 + y) % 32) % 1) (spellF 0 0 t)).map (((((h * 32 + (b * 256 + y) / 32) % 8 * 32 + (b * 256 + y) % 32) / 1 : Nat) : Int) :: ·)).map ((((h * 32 + (b * 256 + y) / 32) / 8 : Nat) : Int) :: ·) = _
      rw [Nat.mod_one, i0, Option.map_some, Option.map_some, show (h * 32 + (b * 256 + y) / 32) / 8 = h * 4 + b by omega, show ((h * 32 + (b * 256 + y) / 32) % 8 * 32 + (b * 256 + y) % 32) / 1 = y by omega]
    · rw [spellF, Int.toNat_natCast, show 3 + 8 = 11 from rfl, emit11]
      show unF 5 h (lt32 ((b * 256 + y) / 64) :: lt32 ((b * 256 + y) % 64 / 2) :: spellF 1 ((b * 256 + y) % 64 % 2) t) = _
      rw [unF_ge (by omega) (by decide)]
      show (unF 2 ((h * 32 + (b * 256 + y) / 64) % 4) (lt32 ((b * 256 + y) % 64 / 2) :: spellF 1 ((b * 256 + y) % 64 % 2) t)).map ((((h * 32 + (b * 256 + y) / 64) / 4 : Nat) : Int) :: ·) = _
      rw [unF_lt (by omega) (by decide), i1 _ _ (by omega) (by omega), Option.map_some, show (h * 32 + (b * 256 + y) / 64) / 4 = h * 8 + b by omega, show ((h * 32 + (b * 256 + y) / 64) % 4 * 32 + (b * 256 + y) % 64 / 2) * 2 + (b * 256 + y) % 64 % 2 = y by omega]
    · rw [spellF, Int.toNat_natCast, show 4 + 8 = 12 from rfl, emit12]
      show unF 4 h (lt32 ((b * 256 + y) / 128) :: lt32 ((b * 256 + y) % 128 / 4) :: spellF 2 ((b * 256 + y) % 128 % 4) t) = _
      rw [unF_ge (by omega) (by decide)]
      show (unF 1 ((h * 32 + (b * 256 + y) / 128) % 2) (lt32 ((b * 256 + y) % 128 / 4) :: spellF 2 ((b * 256 + y) % 128 % 4) t)).map ((((h * 32 + (b * 256 + y) / 128) / 2 : Nat) : Int) :: ·) = _
      rw [unF_lt (by omega) (by decide), i2 _ _ (by omega) (by omega), Option.map_some, show (h * 32 + (b * 256 + y) / 128) / 2 = h * 16 + b by omega, show ((h * 32 + (b * 256 + y) / 128) % 2 * 32 + (b * 256 + y) % 128 / 4) * 4 + (b * 256 + y) % 128 % 4 = y by omega]
/-- read as it was written -/
theorem unF_body (c : Int) (P : Pst) : unF 0 0 (bodyF c P) = some (tokB c P) := (un_all _ (tokB_ob c P)).1
end Go.Proofs.Ytnghfnhpjdafmaa
