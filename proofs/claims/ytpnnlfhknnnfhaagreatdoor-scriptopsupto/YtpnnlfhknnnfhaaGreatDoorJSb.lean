/- Small words; bytes as lists; digits. -/
import Derived.Test.YtpnnlfhknnnfhaaGreatDoorLBase
import Derived.WalkKit
import Derived.WalkSpells
import Derived.Deep.QuietTactic
import Derived.BigQuiet
import Derived.Lib.Strings
import Derived.Lib.ItoaNum
import Derived.Lib.ItoaLen
import Derived.Laws.RangeAny
namespace Go.Proofs.YtpnnlfhknnnfhaaGreatDoor.T
open Go.RowKit

/-- a text of these bytes -/
def bs (l : List UInt8) : ByteArray := ⟨l.toArray⟩
theorem bs_list (l : List UInt8) : (bs l).data.toList = l := by simp [bs]
theorem bs_size (l : List UInt8) : (bs l).size = l.length := by simp [bs, ByteArray.size]
theorem bs_of (s : ByteArray) : bs s.data.toList = s := by cases s; simp [bs]
theorem wrap8 (x : Int) (h0 : 0 ≤ x) (h1 : x ≤ 255) : IntKind.u8.wrap x = x := by
  simp [IntKind.wrap, IntKind.bits, IntKind.signed]; omega
theorem bs_app (a b : List UInt8) : bs a ++ bs b = bs (a ++ b) := by
  apply ByteArray.ext
  simp [bs, ByteArray.data_append]
/-- a number's digits, none of 0 -/
def dd (n : Nat) : List UInt8 := if n = 0 then [] else Lib.decDigits n
theorem dd_step (n : Nat) (h : 0 < n) : dd n = dd (n / 10) ++ [UInt8.ofNat (48 + n % 10)] := by
  unfold dd
  rw [if_neg (by omega)]
  by_cases h10 : n < 10
  · rw [if_pos (by omega), Lib.decDigits, dif_pos h10, Nat.mod_eq_of_lt h10]; rfl
  · rw [if_neg (by omega)]
    conv => lhs; rw [Lib.decDigits]
    rw [dif_neg h10]
theorem one_text (W : World) (c : UInt8) : (convert 56 9 (.slice (some ⟨W.heap.size, 0, none⟩) 1 1)).run Tryz.prog (W.alloc (.cells #[.int .u8 (c.toNat : Int)] 5)) = .ok (.string (bs [c])) (W.alloc (.cells #[.int .u8 (c.toNat : Int)] 5)) := by
  refine run_convert_bytes_back (W.alloc (.cells #[.int .u8 (c.toNat : Int)] 5)) 56 9 5 ⟨W.heap.size, 0, none⟩ 1 [c] Tryz.underlying56 Tryz.underlying5 Tryz.underlying9 (fun j hj => ?_)
  have : j = 0 := by simpa using hj
  subst this
  rw [Addr.add_lit, Nat.zero_add, World.cell?_alloc_new]; simp
/-- a number's text -/
def num (n : Int) : List UInt8 := Lib.itoa n
theorem num0 : num 0 = [48] := by unfold num Lib.itoa Lib.decDigits; rfl
theorem num_pos (u : Nat) (h : 0 < u) : num (u : Int) = dd u := by unfold num Lib.itoa dd; rw [if_neg (by omega), if_neg (by omega)]; simp
theorem num_neg (u : Nat) (h : 0 < u) : num (-(u : Int)) = 45 :: dd u := by unfold num Lib.itoa dd; rw [if_pos (by omega), if_neg (by omega)]; simp
theorem ret_str {a b : ByteArray} (h : a = b) : Ending.returned (.string a) = .returned (.string b) := by rw [h]
end Go.Proofs.YtpnnlfhknnnfhaaGreatDoor.T
