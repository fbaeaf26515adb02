/- FBkP -/
import Derived.Test.YtnghfnhpjdafmaaBk50
import Derived.Test.YtnghfnhpjdafmaaBk51
namespace Go.Proofs.Ytnghfnhpjdafmaa
open Go.RowKit
theorem back_row (c : Int) (p : Pv) (ro : Option Addr) (rn rc : Nat) (Z : List Int) (s : ByteArray) (w : World) (hS : PSrc w p) (hB : BSO w ro rn rc Z) (hs : s.size ≤ 140737488355328) :
    Calls Try.prog 6 #[ToV (mkT c p), .slice ro rn rc, .string s] w fun e w' => e = .returned (.bool true) ∧ Below w.heap.size w w' := back_any c p ro rn rc Z s w hS hB.src hB.cap (by have := hB.big; omega) hs
end Go.Proofs.Ytnghfnhpjdafmaa
namespace Go.Proofs.Ytnghfnhpjdafmaa.tokensBack
open Go.ChangeShapes Go.WideShapes Go.ChangeAt Go.RowKit Go.Joins

set_option maxRecDepth 100000 in
theorem lifted (os : Os) (started : os.Started) (H : Type) (enc : TypeId × Value → H) :
    ReturnsInHanded {} Try.checked os 6 .any (Rows.tokensBackSpec.pre6 enc Try.prog Try.f6 Rows.tokensBackRow.domain false) (Rows.tokensBackSpec.post enc Try.prog Try.f6 false true false false) := by
  refine returnsInHanded_of_change_shaped (C := Try.checked) own started (by kernel_rfl) Try.func6
    (ChangeSpec.witness6 (enc := enc) (C := Try.checked) false ⟨#[], #[.agg #[.int .i64 0, .slice none 0 0, .slice none 0 0], .slice none 0 0, .string ⟨#[]⟩], []⟩ 8 (by kernel_rfl) (by kernel_rfl) (by kernel_rfl) (by kernel_rfl)) ?_
  intro W base args ds gs before hval0 hW _ hz _ _
  have hval : ∀ (j : Nat) t v, Try.f6.params[j]? = some t → args[j]? = some v → Value.okWide Try.prog W .any base t v := hval0
  have hW' := hW
  obtain ⟨p, q, hA0, hV, rfl, hfz, hnd⟩ := hW
  have hA : DataW.TrodAll enc Try.prog W 0 (fun _ => true) true Try.f6.params.toList args.toList ds p := hA0
  rw [Try.params6] at hA hval
  obtain ⟨v0, vs0, d0, ds0, p0, q0, hargs, rfl, rfl, h0, r0⟩ := trodAll_cons hA
  obtain ⟨v1, vs1, d1, ds1, p1, q1, rfl, rfl, rfl, h1, r1⟩ := trodAll_cons r0
  obtain ⟨v2, vs2, d2, ds2, p2, q2, rfl, rfl, rfl, h2, r2⟩ := trodAll_cons r1
  obtain ⟨rfl, rfl, rfl⟩ := trodAll_nil r2
  obtain rfl : args = #[v0, v1, v2] := by cases args; simp_all
  obtain ⟨rfl, rfl⟩ := trodVars_none hV
  obtain ⟨cs0, rfl, hsz0⟩ := okWide_struct Try.underlying52 (hval 0 52 v0 rfl rfl)
  obtain ⟨fuel0, hf0⟩ := id h0
  rw [show (Value.agg cs0).cells = cs0 by simp [Value.cells]] at hf0
  obtain ⟨cc, pp, ecs0, Sp⟩ := open_token hf0 (fun n hn => by
    have := List.all_eq_true.1 hz _ (DataW.weights_mem_each (j := 0) (t := 52) rfl rfl n hn)
    simpa using this)
  obtain rfl : cs0 = ToC (mkT cc pp) := by rw [← Array.toList_inj]; exact ecs0
  obtain ⟨a1, l1, c1, rfl⟩ := okWide_slice Try.underlying59 (hval 1 59 v1 rfl rfl)
  obtain ⟨L1, S1⟩ := viewBO h1 (fun n hn => by
    have := List.all_eq_true.1 hz _ (DataW.weights_mem_each (j := 1) (t := 59) rfl rfl n hn)
    simpa using this)
  obtain ⟨n2, rfl, ed2, -, -⟩ := Go.ChangeMaps.open_string Try.underlying9 (hval 2 9 v2 rfl rfl) h2
  have z2 : n2.size ≤ reachBytes := by
    have := List.all_eq_true.1 hz _ (DataW.weights_mem_each (j := 2) (t := 9) rfl rfl n2.data.toList.length (by rw [ed2]; simp [DataW.weights]))
    simpa using this
  clear hA0 hval0
  simp only [List.append_nil] at hW'
  have hlt : ∀ x ∈ p0 ++ (p1 ++ (p2)), x.block < W.heap.size := fun x hx => hW'.lt x (by simpa using hx)
  refine (back_row cc pp a1 l1 c1 L1 n2 W Sp S1 (by have := z2; unfold reachBytes at this; omega)).mono ?_
  rintro e W' ⟨rfl, hnx⟩
  exact ⟨_, rfl, _, _, _, [], _, [], hW', trodAll_cons_mk (shut_bool Try.underlying4 _) trodAll_mk0, (trodAll_cons_mk (Below.trod laidOut (by kernel_rfl) (of_decide_eq_true (by kernel_rfl)) h0 hnx (fun x hx => hlt x (by simp [hx]))) (trodAll_cons_mk (Below.trod laidOut (by kernel_rfl) (of_decide_eq_true (by kernel_rfl)) h1 hnx (fun x hx => hlt x (by simp [hx]))) (trodAll_cons_mk (Below.trod laidOut (by kernel_rfl) (of_decide_eq_true (by kernel_rfl)) h2 hnx (fun x hx => hlt x (by simp [hx]))) trodAll_mk0))), rfl, hnx.frame _, fun h => by cases h⟩
end Go.Proofs.Ytnghfnhpjdafmaa.tokensBack
namespace Go.Proofs.Ytnghfnhpjdafmaa
theorem tokensBack_holds : Rows.TokensBackSaid :=
  OpenClaim.holds_of_wide 6 Try.f6 rfl rfl rfl rfl rfl rfl rfl ⟨rfl, rfl, rfl, rfl, rfl⟩ rfl rfl rfl rfl rfl (by kernel_rfl) Try.func6 (by kernel_rfl)
    (of_decide_eq_true (by kernel_rfl)) (by unfold Func.isWrapper; first | (rw [if_pos (by decide +kernel)]; kernel_rfl) | (rw [if_neg (by decide +kernel)]; exact ⟨rfl, rfl⟩))
    (fun os started H enc _ => tokensBack.lifted os started H enc)
#print axioms tokensBack_holds
end Go.Proofs.Ytnghfnhpjdafmaa
