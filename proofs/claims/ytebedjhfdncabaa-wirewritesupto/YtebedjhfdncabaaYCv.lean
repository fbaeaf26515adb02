/- string(b) of a row; put of any kind. -/
import Derived.Test.YtebedjhfdncabaaYPf
import Derived.Laws.BytesArg
namespace Go.Proofs.Ytebedjhfdncabaa
open Go.RowKit
variable {w w' w2 : World} {g : Nat}

theorem BR.str {ao : Option Addr} {n cap : Nat} {Z : List Int} (h : BR w ao n cap Z) : (convert 27 9 (.slice ao n cap)).run Try.prog w = .ok (.string (strOfNums Z)) w := by
  have S := h.bs
  rcases h.2 with ⟨h0, h00⟩ | ⟨q, cap2, cur, hv, r⟩
  · simp only [Value.slice.injEq] at h0
    obtain ⟨rfl, e0, rfl⟩ := h0
    subst e0
    have e := List.eq_nil_of_length_eq_zero S.len
    subst e
    rw [run_convert_bytes_nil w 27 5 Try.underlying27 Try.underlying5 0 0 9 Try.underlying9]
    rfl
  · simp only [Value.slice.injEq, true_and] at hv
    obtain ⟨rfl, rfl⟩ := hv
    refine run_convert_bytes_arg w 27 5 Try.underlying27 Try.underlying5 q 0 n cap Z S.len (fun i hi => ?_) 9 Try.underlying9
    have := S.cell _ rfl i hi
    rw [Addr.add_lit] at this
    exact this
theorem put_any (ao : Option Addr) (m c : Nat) (Z : List Int) (sp : Bool) (z k n : Int) (b : Bool) (s : ByteArray) (w : World) (W : Wr w g ao m c Z sp) (hao : sp = true → ao = none) (hn : n ≤ 9223372036854775807) (hs : m + s.size ≤ 140737488355000) :
    Calls Try.prog 7 #[ptr g, QV ⟨z, k, n, b, s⟩] w fun r w' => r = .returned (.tuple #[]) ∧ PutW w w' g ao Z k n b s sp := by
  by_cases h4 : k = 4
  · subst h4
    exact put_frame ao m c Z sp z n b s w W hao hs
  · exact put_plain ao m c Z sp z k n b s w W hao hn hs h4
end Go.Proofs.Ytebedjhfdncabaa
