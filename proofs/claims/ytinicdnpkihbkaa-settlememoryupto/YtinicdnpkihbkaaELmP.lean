/- SettleMemory: the row, where what comes in is small. -/
import Derived.Test.YtinicdnpkihbkaaELm
import Derived.Test.YtinicdnpkihbkaaEVh
import Derived.JoinedCond
namespace Go.Proofs.Ytinicdnpkihbkaa
open Go.RowKit
theorem settleMemory_row (r : Int) (a1 : Option Addr) (n d1 : Nat) (L : List Pr) (a2 : Option Addr) (n2 d2 : Nat) (B : List Pr) (b : Bool) (w : World) (SA : P1 w a1 n d1 L) (SB : P1 w a2 n2 d2 B) : Calls Try.prog 6 #[.agg (HV r a1 n d1 a2 n2 d2 b)] w fun e w' => e = .returned (.bool true) ∧ Below w.heap.size w w' := settleMemory_any r a1 n d1 L a2 n2 d2 B b w SA.s SB.s SA.big SB.big
end Go.Proofs.Ytinicdnpkihbkaa
namespace Go.Proofs.Ytinicdnpkihbkaa.settleMemory
open Go.ChangeShapes Go.WideShapes Go.ChangeAt Go.RowKit Go.Joins

set_option maxRecDepth 100000 in
theorem lifted (os : Os) (started : os.Started) (H : Type) (enc : TypeId × Value → H) (F : Stop.Interp) :
    ReturnsInHanded {} Try.checked os 6 .any ((Rows.OpenSpec.upto Rows.settleMemorySpec).pre6 enc Try.prog Try.f6 Rows.settleMemoryUptoRow.domain false) (((Rows.OpenSpec.upto Rows.settleMemorySpec).at F).post enc Try.prog Try.f6 false true false false) := by
  refine returnsInHanded_of_cond (C := Try.checked) (s := Rows.OpenSpec.upto Rows.settleMemorySpec) (k := Rows.uptoSmall) rfl own started (by kernel_rfl) Try.func6
    (OpenSpec.witness (enc := enc) (C := Try.checked) (s := Rows.OpenSpec.upto Rows.settleMemorySpec) (k := Rows.uptoSmall) rfl false ⟨#[], #[.agg #[.int .i64 0, .slice none 0 0, .slice none 0 0, .bool false]], []⟩ 8 (by kernel_rfl) (by kernel_rfl) (by kernel_rfl)
      (x := ([.agg [.lit (.int .i64 0), .nil, .nil, .lit (.bool false)]], [], [])) (by kernel_rfl) rfl (by kernel_rfl)) ?_
  intro W base args ds gs before hval0 hW _ hk _
  have hval : ∀ (j : Nat) t v, Try.f6.params[j]? = some t → args[j]? = some v → Value.okWide Try.prog W .any base t v := hval0
  have hW' := hW
  obtain ⟨p, q, hA0, hV, rfl, hfz, hnd⟩ := hW
  have hA : DataW.TrodAll enc Try.prog W 0 (fun _ => true) true Try.f6.params.toList args.toList ds p := hA0
  rw [Try.params6] at hA hval
  obtain ⟨v0, vs0, d0, ds0, p0, q0, hargs, rfl, rfl, h0, r0⟩ := trodAll_cons hA
  obtain ⟨rfl, rfl, rfl⟩ := trodAll_nil r0
  obtain rfl : args = #[v0] := by cases args; simp_all
  obtain ⟨rfl, rfl⟩ := trodVars_none hV
  have hb : Rows.uptoBulkAll ([d0] ++ []) ≤ 1048576 := of_decide_eq_true hk
  have h0' := h0
  obtain ⟨cs0, rfl, hsz0⟩ := okWide_struct Try.underlying46 (hval 0 46 v0 rfl rfl)
  obtain ⟨fuel0, hf0⟩ := h0'
  have hcells0 : (Value.agg cs0).cells = cs0 := by simp [Value.cells]
  rw [hcells0] at hf0
  obtain ⟨x0a, x0b, x0c, x0d, x0e, x0f, x0g, x0h, x0i, x0j, ecs0, S0a, S0b⟩ := open_held hf0 (Nat.le_trans (bulk_at _ d0 (by simp)) hb)
  obtain rfl : cs0 = HV x0a x0b x0c x0d x0f x0g x0h x0j := by rw [← Array.toList_inj]; exact ecs0
  clear hA0 hval0
  simp only [List.append_nil] at hW'
  have hlt : ∀ x ∈ p0, x.block < W.heap.size := fun x hx => hW'.lt x (by simpa using hx)
  refine (settleMemory_row x0a x0b x0c x0d x0e x0f x0g x0h x0i x0j W S0a S0b).mono ?_
  rintro e W' ⟨rfl, hnx⟩
  exact ⟨_, rfl, _, _, _, [], _, [], hW', trodAll_cons_mk (shut_bool Try.underlying4 _) trodAll_mk0, (trodAll_cons_mk (Below.trod laidOut (by kernel_rfl) (of_decide_eq_true (by kernel_rfl)) h0 hnx (fun x hx => hlt x (by simp [hx]))) trodAll_mk0), rfl, hnx.frame _, fun h => by cases h⟩
end Go.Proofs.Ytinicdnpkihbkaa.settleMemory
namespace Go.Proofs.Ytinicdnpkihbkaa
theorem settleMemory_holds : Rows.SettleMemoryUptoSaid :=
  OpenClaim.holds_of_cond 6 Try.f6 rfl rfl rfl rfl rfl rfl rfl ⟨rfl, rfl, rfl, rfl, rfl⟩ rfl rfl rfl rfl rfl (by kernel_rfl) Try.func6 (by kernel_rfl)
    (of_decide_eq_true (by kernel_rfl)) (by unfold Func.isWrapper; first | (rw [if_pos (by decide +kernel)]; kernel_rfl) | (rw [if_neg (by decide +kernel)]; exact ⟨rfl, rfl⟩))
    (fun os started H enc _ F => settleMemory.lifted os started H enc F)
#print axioms settleMemory_holds
end Go.Proofs.Ytinicdnpkihbkaa
