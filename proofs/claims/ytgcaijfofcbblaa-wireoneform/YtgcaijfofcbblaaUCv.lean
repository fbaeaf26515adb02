/- []byte(s). -/
import Derived.Test.YtgcaijfofcbblaaUGb
import Derived.Lib.AppendStr
namespace Go.Proofs.Ytgcaijfofcbblaa
open Go.RowKit
variable {w w' w2 : World}

def strB (s : ByteArray) : List Int := s.data.toList.map fun b => (b.toNat : Int)
theorem strB_length (s : ByteArray) : (strB s).length = s.size := by rw [strB, List.length_map]; rfl
theorem strB_at (s : ByteArray) (j : Nat) (hj : j < s.size) : (strB s).getD j 0 = ((s.data.toList.getD j 0).toNat : Int) := by
  have hl : j < s.data.toList.length := hj
  rw [strB, List.getD_eq_getElem?_getD, List.getElem?_map, List.getD_eq_getElem?_getD, List.getElem?_eq_getElem hl]
  rfl
theorem conv_bs (w : World) (s : ByteArray) : ∃ (w' : World) (c : Nat), (convert 9 23 (.string s)).run Try.prog w = .ok (.slice (some ⟨w.heap.size, 0, none⟩) s.size c) w' ∧ BS w' (some ⟨w.heap.size, 0, none⟩) s.size c (strB s) ∧ Below w.heap.size w w' ∧ w'.heap.size = w.heap.size + 1 := by
  refine ⟨Lib.bytesWorld w 5 s, _, Lib.run_convert_string_bytes w 9 23 5 s Try.underlying9 Try.underlying23 Try.underlying5, ⟨strB_length s, (fun h => by cases h), fun ad ha t ht => ?_⟩, ⟨rfl, rfl, rfl, by rw [Lib.bytesWorld_size]; omega, fun k hk => Lib.bytesWorld_at_old w _ s k hk⟩, Lib.bytesWorld_size w _ s⟩
  obtain rfl := Option.some.inj ha
  rw [Addr.add_lit, Nat.zero_add, Lib.bytesWorld_cell w _ s t ht, strB_at s t ht]
theorem strB_nums (Z : List Int) (h : ∀ t, 0 ≤ Z.getD t 0 ∧ Z.getD t 0 ≤ 255) : strB (strOfNums Z) = Z := by
  unfold strB
  rw [strOfNums_data, List.map_map]
  refine List.ext_getElem (by simp) fun i h1 h2 => ?_
  have hb := h i
  rw [List.getD_eq_getElem?_getD, List.getElem?_eq_getElem h2] at hb
  simp only [List.getElem_map, Function.comp, Option.getD_some] at hb ⊢
  have : (UInt8.ofNat (Z[i]).toNat).toNat = (Z[i]).toNat := by
    rw [UInt8.toNat_ofNat']
    omega
  rw [this]
  omega
end Go.Proofs.Ytgcaijfofcbblaa
