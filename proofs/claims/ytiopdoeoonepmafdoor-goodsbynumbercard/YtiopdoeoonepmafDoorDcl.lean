/- decimal: its contract where no 0s are asked for. -/
import Derived.Test.YtiopdoeoonepmafDoorQty
import Derived.Laws.IdiomStrings
import Derived.Lib.ItoaLen
namespace Go.Proofs.YtiopdoeoonepmafDoor
open Go.RowKit

theorem str_list (l : List UInt8) : (str l).data.toList = l := by simp [str]
theorem str_size (l : List UInt8) : (str l).size = l.length := by simp [str, ByteArray.size]
theorem str_of {s : ByteArray} {l : List UInt8} (h : s.data.toList = l) : s = str l := by
  cases s with
  | mk d => unfold str; congr 1; rw [← h]
theorem str_add (l : List UInt8) (t : ByteArray) : (str l ++ t).data.toList = l ++ t.data.toList := by rw [ByteArray.data_append, Array.toList_append, str_list]
def d8 (x : Nat) : UInt8 := UInt8.ofNat (48 + x)
/-- string([]byte{c}) -/
theorem one_text (w : World) (x : Nat) (h : x ≤ 9) : (convert 43 9 (.slice (some ⟨w.heap.size, 0, none⟩) 1 1)).run Tryd.prog (w.alloc (.cells #[.int .u8 (48 + (x : Int))] 5)) = .ok (.string (str [d8 x])) (w.alloc (.cells #[.int .u8 (48 + (x : Int))] 5)) := by
  have e : ((d8 x).toNat : Int) = 48 + (x : Int) := by unfold d8; simp [UInt8.toNat_ofNat']; omega
  refine run_convert_bytes_back _ 43 9 5 ⟨w.heap.size, 0, none⟩ 1 [d8 x] Tryd.underlying43 Tryd.underlying5 Tryd.underlying9 (fun j hj => ?_)
  have hj0 : j = 0 := by simpa using hj
  subst hj0
  rw [← e, Addr.add_lit]
  simp

set_option maxRecDepth 100000 in
set_option maxHeartbeats 1600000 in
theorem decimal_any (u : Nat) (hu : u < 4294967296) (w : World) :
    Calls Tryd.prog 8 #[.int .u32 u, .int .i64 0] w fun e w' => e = .returned (.string (str (Lib.decDigits u))) ∧ Below w.heap.size w w' := by
  have HN : Hid ((Lib.decDigits u).length ≤ 20) := by show _ ≤ _; rw [Lib.decDigits_length]; exact Lib.nDigits_le20 u (by omega)
  go_enter Tryd.func8, Tryd.ntmps8
  go_wp2
  go_loopw [0, 5] (fun n s wr => ∃ (v : Nat) (t : ByteArray), v ≤ u ∧ n = .int .u32 v ∧ s = .string t ∧ Hid (Lib.decDigits u = Lib.decDigits v ++ t.data.toList) ∧ t.size ≤ 20 ∧ Below w.heap.size w wr) (fun n _ _ => (intOf n).toNat)
  case atStart => exact ⟨u, ⟨#[]⟩, Nat.le_refl _, rfl, rfl, by show _ = _; simp, by decide, Below.refl _ _⟩
  case round =>
    obtain ⟨v, t, hv, rfl, rfl, HD, ht, hb⟩ := hrel
    by_cases h9 : v ≤ 9
    · have hcv := one_text wr v h9
      have HF : Hid (str [d8 v] ++ t = str (Lib.decDigits u)) := str_of (by rw [str_add, HD.out, Lib.decDigits_one (by omega)]; rfl)
      have hs1 : (str [d8 v]).size = 1 := rfl
      have hand : bits BinOp.and IntKind.i64 0 7 = 0 := by decide
      have HB : Hid (Below w.heap.size w (wr.alloc (.cells #[.int .u8 (48 + (v : Int))] 5))) := hb.alloc hb.size _
      go_wp2
      go_loop [5, 6] (fun s i => s = .string (str [d8 v] ++ t) ∧ i = .int .i64 0) (fun _ _ => 0)
      case atStart => exact ⟨rfl, rfl⟩
      case round =>
        obtain ⟨rfl, rfl⟩ := hrel
        go_wp2
        go_ret
        exact ⟨ret_of (by show Value.string _ = _; rw [HF.out]), HB.out⟩
    · have hcv := one_text wr (v % 10) (by omega)
      have HF : Hid (Lib.decDigits u = Lib.decDigits (v / 10) ++ (str [d8 (v % 10)] ++ t).data.toList) := by
        show _ = _
        rw [HD.out, Lib.decDigits, dif_neg (by omega), str_add, List.append_assoc]; rfl
      have HZ : Hid ((str [d8 (v % 10)] ++ t).size ≤ 20) := by
        have e1 := congrArg List.length HF.out
        rw [List.length_append] at e1
        have e2 : (str [d8 (v % 10)] ++ t).data.toList.length = (str [d8 (v % 10)] ++ t).size := by simp
        have e3 := HN.out
        show _ ≤ _
        omega
      have hs1 : (str [d8 (v % 10)]).size = 1 := rfl
      rw [show ((v % 10 : Nat) : Int) = (v : Int) % 10 from rfl] at hcv
      go_wp2
      go_roundw
      case rel => exact ⟨v / 10, str [d8 (v % 10)] ++ t, by omega, by go_num, rfl, HF, HZ.out, hb.alloc hb.size _⟩
      case measure => simp [intOf]; omega
end Go.Proofs.YtiopdoeoonepmafDoor
