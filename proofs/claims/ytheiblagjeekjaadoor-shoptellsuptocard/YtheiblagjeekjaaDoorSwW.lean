/- The reference's word and Word; shop.Word. -/
import Derived.Test.YtheiblagjeekjaaDoorSwN
import Derived.Test.YtheiblagjeekjaaDoorSwT
namespace Go.Proofs.YtheiblagjeekjaaDoor
open Go.RowKit

/-- one letter of a text of words: the number of the word, and what is picked of the k-th -/
def wstep (k : Nat) (p : Nat × List UInt8) (c : UInt8) : Nat × List UInt8 := if c.toNat = 32 then (p.1 + 1, p.2) else if p.1 = k then (p.1, p.2 ++ [c]) else p
def wfold (k : Nat) (l : List UInt8) : Nat × List UInt8 := l.foldl (wstep k) (0, [])
theorem wfold_snoc (k : Nat) (l : List UInt8) (c : UInt8) : wfold k (l ++ [c]) = wstep k (wfold k l) c := by unfold wfold; rw [List.foldl_append]; rfl
theorem take_snocB (s : ByteArray) (k : Nat) (h : k < s.size) : s.data.toList.take (k + 1) = s.data.toList.take k ++ [s[k]] := by
  rw [List.take_succ_eq_append_getElem (by simpa using h)]; rfl
set_option maxRecDepth 100000 in
set_option maxHeartbeats 1600000 in
theorem word_any (s : ByteArray) (k : Nat) (_ : k < 1000) (w : World) (hs : s.size ≤ 1000) : Calls Tryd.prog 10 #[.string s, .int .i64 (k : Int)] w fun e w' => e = .returned (.string (bs (wfold k s.data.toList).2)) ∧ Below w.heap.size w w' := by
  go_enter Tryd.func10, Tryd.ntmps10
  go_wp2
  go_loopw [5, 6, 7] (fun t a v wr => ∃ (n m : Nat) (l : List UInt8), n ≤ s.size ∧ m ≤ n ∧ l.length ≤ n ∧ v = .int .i64 (n : Int) ∧ a = .int .i64 (m : Int) ∧ t = .string (bs l) ∧ Hid (wfold k (s.data.toList.take n) = (m, l)) ∧ Hid (Below w.heap.size w wr)) (fun _ _ v _ => s.size - (intOf v).toNat)
  case atStart => exact ⟨0, 0, [], by omega, by omega, by simp, rfl, rfl, rfl, by show _ = _; simp [wfold], Below.refl _ _⟩
  case round =>
    obtain ⟨n, m, l, hn, hm, hl, rfl, rfl, rfl, HW, HB⟩ := hrel
    by_cases hlt : n < s.size
    · obtain ⟨c, hc⟩ : ∃ c, s[n] = c := ⟨_, rfl⟩
      have HS : Hid (wfold k (s.data.toList.take (n + 1)) = wstep k (m, l) c) := by show _ = _; rw [take_snocB s n hlt, wfold_snoc, HW.out, hc]
      have hs2 : (bs l).size = l.length := bs_size _
      by_cases h32 : (c.toNat : Int) = 32
      · have HE : Hid (wstep k (m, l) c = (m + 1, l)) := by show _ = _; unfold wstep; rw [if_pos (by omega)]
        go_wp2
        go_roundw
        case rel => exact ⟨n + 1, m + 1, l, by omega, by omega, by omega, by go_num, by go_num, rfl, by show _ = _; rw [HS.out, HE.out], HB⟩
        case measure => simp [intOf]; omega
      · by_cases hmk : (m : Int) = (k : Int)
        · have HE : Hid (wstep k (m, l) c = (m, l ++ [c])) := by show _ = _; unfold wstep; rw [if_neg (by omega), if_pos (by show m = k; omega)]
          have htx := one_text wr c
          have HB2 : Hid (Below w.heap.size w (wr.alloc (.cells #[.int .u8 (c.toNat : Int)] 5))) := HB.out.alloc HB.out.size _
          have happ := bs_app l [c]
          have hs1 : (bs [c]).size = 1 := bs_size _
          have hs3 : (bs (l ++ [c])).size = l.length + 1 := by rw [bs_size]; simp
          go_wp2
          go_roundw
          case rel => exact ⟨n + 1, m, l ++ [c], by omega, by omega, by simp; omega, by go_num, rfl, rfl, by show _ = _; rw [HS.out, HE.out], HB2⟩
          case measure => simp [intOf]; omega
        · have HE : Hid (wstep k (m, l) c = (m, l)) := by show _ = _; unfold wstep; rw [if_neg (by omega), if_neg (by show ¬ m = k; omega)]
          go_wp2
          go_roundw
          case rel => exact ⟨n + 1, m, l, by omega, by omega, by omega, by go_num, rfl, rfl, by show _ = _; rw [HS.out, HE.out], HB⟩
          case measure => simp [intOf]; omega
    · have HF : Hid ((wfold k s.data.toList).2 = l) := by
        have e : s.data.toList.take n = s.data.toList := List.take_of_length_le (by simp; omega)
        show _ = _
        rw [← e, HW.out]
      go_wp2
      go_ret
      exact ⟨ret_str (by rw [HF.out]), HB.out⟩
end Go.Proofs.YtheiblagjeekjaaDoor
