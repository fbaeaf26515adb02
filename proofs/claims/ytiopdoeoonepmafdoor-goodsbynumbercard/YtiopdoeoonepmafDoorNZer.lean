/- decimal: its contract, with 0s in front. -/
import Derived.Test.YtiopdoeoonepmafDoorDcl
import Derived.Test.YtiopdoeoonepmafDoorNBy
namespace Go.Proofs.YtiopdoeoonepmafDoor.N
open Go.RowKit

/-- z & 7 -/
def m7 (z : Int) : Nat := (bits .and .i64 z 7).toNat
theorem m7_bd (z : Int) : bits .and .i64 z 7 = (m7 z : Int) ∧ m7 z ≤ 7 := by
  have h : (BitVec.ofInt 64 z &&& BitVec.ofInt 64 7).toNat ≤ 7 := by
    rw [BitVec.toNat_and]
    exact Nat.le_trans Nat.and_le_right (by decide)
  have e : bits .and .i64 z 7 = ((BitVec.ofInt 64 z &&& BitVec.ofInt 64 7).toNat : Int) := by
    show IntKind.i64.wrap ((BitVec.ofInt 64 z &&& BitVec.ofInt 64 7).toNat : Int) = _
    rw [IntKind.wrap_i64]
    omega
  unfold m7
  omega
theorem zn_succ (i n : Nat) : (⟨#[48]⟩ : ByteArray) ++ str (zn i n) = str (zn (i + 1) n) := str_of (by
  have e : (⟨#[48]⟩ : ByteArray) = str [48] := rfl
  rw [e, str_add, str_list]; unfold zn; rw [List.replicate_succ]; rfl)

set_option maxRecDepth 100000 in
set_option maxHeartbeats 1600000 in
theorem decimal_zeros (u : Nat) (z : Int) (hu : u < 4294967296) (w : World) :
    Calls Tryd.prog 8 #[.int .u32 u, .int .i64 z] w fun e w' => e = .returned (.string (str (zn (m7 z) u))) ∧ Below w.heap.size w w' := by
  have HN : Hid ((Lib.decDigits u).length ≤ 20) := by show _ ≤ _; rw [Lib.decDigits_length]; exact Lib.nDigits_le20 u (by omega)
  obtain ⟨hand, hz7⟩ := m7_bd z
  obtain ⟨j, hj⟩ : ∃ j, m7 z = j := ⟨_, rfl⟩
  rw [hj] at hand hz7 ⊢
  go_enter Tryd.func8, Tryd.ntmps8
  go_wp2
  go_loopw [0, 5] (fun n s wr => ∃ (v : Nat) (t : ByteArray), v ≤ u ∧ n = .int .u32 v ∧ s = .string t ∧ Hid (Lib.decDigits u = Lib.decDigits v ++ t.data.toList) ∧ t.size ≤ 20 ∧ Below w.heap.size w wr) (fun n _ _ => (intOf n).toNat)
  case atStart => exact ⟨u, ⟨#[]⟩, Nat.le_refl _, rfl, rfl, by show _ = _; simp, by decide, Below.refl _ _⟩
  case round =>
    obtain ⟨v, t, hv, rfl, rfl, HD, ht, hb⟩ := hrel
    by_cases h9 : v ≤ 9
    · have hcv := one_text wr v h9
      have HF : Hid (str [d8 v] ++ t = str (zn 0 u)) := str_of (by rw [str_add]; show _ = Lib.decDigits u; rw [HD.out, Lib.decDigits_one (by omega)]; rfl)
      have hs1 : (str [d8 v]).size = 1 := rfl
      have HB : Hid (Below w.heap.size w (wr.alloc (.cells #[.int .u8 (48 + (v : Int))] 5))) := hb.alloc hb.size _
      go_wp2
      rw [HF.out]
      go_loop [5, 6] (fun s i => ∃ k : Nat, k ≤ j ∧ s = .string (str (zn k u)) ∧ i = .int .i64 k) (fun _ i => j - (intOf i).toNat)
      case atStart => exact ⟨0, Nat.zero_le _, rfl, rfl⟩
      case round =>
        obtain ⟨k, hk, rfl, rfl⟩ := hrel
        obtain ⟨q, HQ⟩ : ∃ q, Hid (str (zn k u) = q) := ⟨_, rfl⟩
        have hq : q.size ≤ 30 := by
          rw [← HQ.out, str_size]; unfold zn; rw [List.length_append, List.length_replicate]; have := HN.out; omega
        rw [HQ.out]
        by_cases hlt : k < j
        · go_wp2
          go_round
          case rel => exact ⟨k + 1, by omega, by rw [← HQ.out, zn_succ], by go_num⟩
          case measure => simp [intOf]; omega
        · have ek : k = j := by omega
          subst ek
          go_wp2
          go_ret
          exact ⟨ret_of (by show Value.string _ = _; rw [HQ.out]), HB.out⟩
    · have hcv := one_text wr (v % 10) (by omega)
      have HF : Hid (Lib.decDigits u = Lib.decDigits (v / 10) ++ (str [d8 (v % 10)] ++ t).data.toList) := by
        show _ = _
        rw [HD.out, Lib.decDigits, dif_neg (by omega), str_add, List.append_assoc]; rfl
      have HZ : Hid ((str [d8 (v % 10)] ++ t).size ≤ 20) := by
        have e1 := congrArg List.length HF.out
        rw [List.length_append] at e1
        have e2 : (str [d8 (v % 10)] ++ t).data.toList.length = (str [d8 (v % 10)] ++ t).size := by simp
        have e3 := HN.out
        show _ ≤ _
        omega
      have hs1 : (str [d8 (v % 10)]).size = 1 := rfl
      rw [show ((v % 10 : Nat) : Int) = (v : Int) % 10 from rfl] at hcv
      go_wp2
      go_roundw
      case rel => exact ⟨v / 10, str [d8 (v % 10)] ++ t, by omega, by go_num, rfl, HF, HZ.out, hb.alloc hb.size _⟩
      case measure => simp [intOf]; omega
end Go.Proofs.YtiopdoeoonepmafDoor.N
