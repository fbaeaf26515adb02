/- The reference's text (barrowref09). -/
import Derived.Test.YtphohmoibnoeaaaGreatUNs
import Derived.Test.YtphohmoibnoeaaaGreatPb21
namespace Go.Proofs.YtphohmoibnoeaaaGreat.U
open Go.RowKit
variable {w w' w2 : World} {g : Nat}

theorem strB_take (s : ByteArray) (k : Nat) (h : k < s.size) : (strB s).take (k + 1) = (strB s).take k ++ [(s[k].toNat : Int)] := by
 have hl : k < (strB s).length := by rw [strB_length]; exact h
 rw [List.take_succ_eq_append_getElem hl]
 congr 1
 simp [strB]
 rfl
set_option maxRecDepth 100000 in
theorem rtext9_any (ao : Option Addr) (n c : Nat) (Z : List Int) (s : ByteArray) (w : World) (S : BR w ao n c Z) (hs : s.size ≤ 1000000) (hn : n ≤ 140737480000000) : Calls Tryz.prog 37 #[.slice ao n c, .string s] w fun r w' =>
  ∃ bo m cc, r = .returned (.slice bo m cc) ∧ BR w' bo m cc (Z ++ (numB s.size ++ strB s)) ∧ Ap w w' ao bo := by
 have HS := hide S
 have hn9 := numB_nine (n := s.size) (by omega)
 clear S
 go_enter Tryz.func37, Tryz.ntmps37
 go_wp2_with fail
 refine (rnum9_any ao n c Z s.size w HS.out (by omega) (by omega)).mono ?_
 rintro r w2 ⟨bo, cc, rfl, hR, hA⟩
 obtain ⟨m, hm⟩ : ∃ m, n + (numB s.size).length = m := ⟨_, rfl⟩
 rw [hm] at hR ⊢
 have HR := hide hR
 have HA := hide hA
 clear hR hA
 go_wp2_with fail
 go_loopw [0, 5] (fun b i wr => ∃ (k : Nat) (bo : Option Addr) (cc : Nat), i = .int .i64 k ∧ b = .slice bo (m + k) cc ∧ k ≤ s.size ∧ Hid (BR wr bo (m + k) cc (Z ++ numB s.size ++ (strB s).take k) ∧ Ap w wr ao bo)) (fun _ i _ => s.size - (intOf i).toNat)
 case atStart => exact ⟨0, bo, cc, rfl, rfl, Nat.zero_le _, by rw [List.take_zero, List.append_nil]; exact HR.out, HA.out⟩
 case round =>
  obtain ⟨k, bo2, cc2, rfl, rfl, hk, HI⟩ := hrel
  by_cases hlt : k < s.size
  ·have hlti : ((k : Nat) : Int) < (s.size : Int) := by omega
   have hb : m + k + 1 ≤ 140737488355328 := by omega
   have HT : Hid ((strB s).take (k + 1) = (strB s).take k ++ [(s[k].toNat : Int)]) := strB_take s k hlt
   go_wp2_with (at_builtin; go_loud (refine HI.out.1.app1 _ hb rfl (.tmp 16) (.tmp 20) rfl rfl rfl ?_); intro b5 c5 w5 S5 A5; have HS5 := hide S5; have HA5 := hide (HI.out.2.trans A5); clear S5 A5)
   exact ⟨⟨k + 1, b5, c5, rfl, rfl, by omega, by rw [HT.out, ← List.append_assoc]; exact HS5.out, HA5.out⟩, by show s.size - (k + 1) < s.size - k; omega⟩
  ·have hlti : ¬ ((k : Nat) : Int) < (s.size : Int) := by omega
   go_wp2_with fail
   go_ret
   refine ⟨bo2, m + k, cc2, rfl, ?_, HI.out.2⟩
   have h := HI.out.1
   rwa [List.take_of_length_le (by rw [strB_length]; omega), List.append_assoc] at h
end Go.Proofs.YtphohmoibnoeaaaGreat.U
