/- GoodsQuantities: the law's walk. -/
import Derived.Test.YtomdjmemglnfaaaGreatDoorQNm
namespace Go.Proofs.YtomdjmemglnfaaaGreatDoor.Q
open Go.RowKit

theorem pq_k (w : World) : Calls Tryz.prog 4 #[.string ⟨#[49, 48, 48, 48, 48, 48, 48]⟩] w fun e w' => e = .returned (.tuple #[.int .i64 1000000, .int .i64 0]) ∧ Below w.heap.size w w' := by
  have h := parse_any ⟨#[49, 48, 48, 48, 48, 48, 48]⟩ w (by unfold maxLen; have : (⟨#[49, 48, 48, 48, 48, 48, 48]⟩ : ByteArray).size = 7 := rfl; omega)
  have e1 : pqN ⟨#[49, 48, 48, 48, 48, 48, 48]⟩ = 1000000 := by decide +kernel
  have e2 : pqE ⟨#[49, 48, 48, 48, 48, 48, 48]⟩ = 0 := by decide +kernel
  rw [e1, e2] at h
  exact h
set_option maxRecDepth 100000 in
set_option maxHeartbeats 3000000 in
theorem quantities_law (ao : Option Addr) (len cap : Nat) (w : World) (hl : len ≤ cap) (hc : cap ≤ maxLen) (ht : Tab w) (hst : ∀ i, i < len → ∃ p o, ao = some p ∧ StepAt w p i o ∧ o.ll ≤ 1048576) :
    Calls Tryz.prog 3 #[.slice ao len cap] w fun e w' => e = .returned (.bool true) ∧ Below w.heap.size w w' := by
  have HST := hide hst
  have HL := hide hl
  have HC := hide hc
  have HT := hide ht
  clear hst hl hc ht
  go_enter Tryz.func3, Tryz.ntmps3
  go_wp2_with fail
  refine (pq_k _).mono ?_
  rintro e w1 ⟨rfl, b1⟩
  obtain ⟨w2, Hw2⟩ : ∃ w2, w1.alloc (.cells #[.int .i64 8, .int .i64 9, .int .i64 10] 3) = w2 := ⟨_, rfl⟩
  have hb12 : Below w1.heap.size w1 w2 := by rw [← Hw2]; exact (Below.refl _ _).alloc (Nat.le_refl _) _
  have HB : Hid (Below w.heap.size w w2) := b1.trans (hb12.mono b1.size)
  have HS1 : Hid (∀ i, i < len → ∃ p o, ao = some p ∧ StepAt w2 p i o) := fun i hi => by
    obtain ⟨p, o, e, S, _⟩ := HST.out i hi
    exact ⟨p, o, e, S.on HB.out⟩
  have HK : Hid (∀ j, j < 3 → w2.cell? ⟨w1.heap.size, j, none⟩ = some (.int .i64 (([8, 9, 10] : List Int).getD j 0))) := by
    intro j hj
    rw [← Hw2]
    match j, hj with
    | 0, _ => simp
    | 1, _ => simp
    | 2, _ => simp
  have HLS : Hid (∀ i p o, i < len → ao = some p → StepAt w2 p i o → o.ll ≤ 1048576) := fun i p o hi hp S => by
    obtain ⟨p', o', e', S', hb'⟩ := HST.out i hi
    obtain rfl : p' = p := Option.some.inj (e'.symm.trans hp)
    have S2 := S'.on HB.out
    have h4 : (some (Value.slice o'.lp o'.ll o'.lc) : Option Value) = some (.slice o.lp o.ll o.lc) := S2.c4.symm.trans S.c4
    simp only [Option.some.injEq, Value.slice.injEq] at h4
    rw [← h4.2.1]
    exact hb'
  have HP : Hid (∀ i p o W, i < len → ao = some p → StepAt w2 p i o → Below w2.heap.size w2 W → o.kind ∈ ([8, 9, 10] : List Int) → Calls Tryz.prog 9 #[.agg #[.int .i64 o.kind, .string o.a, .string o.b, .int .i64 o.n, .slice o.lp o.ll o.lc]] W fun e w' => e = .returned (.bool true) ∧ Below W.heap.size W w') := by
    intro i p o W hi hp S hW hk
    have ha := S.ha
    have hlo := HLS.out i p o hi hp S
    obtain ⟨Z, z1, z2, z3⟩ := (S.on hW).hL
    have hT : Tab W := (HT.out.on HB.out).on hW
    obtain ⟨k, a, b, n, lp, ll, lc⟩ := o
    simp only [List.mem_cons, List.not_mem_nil, or_false] at hk
    rcases hk with rfl | rfl | rfl
    · exact plays8 a b n lp ll lc W ha
    · exact plays9 a b n lp ll lc W hT
    · exact plays10 a b n lp ll lc W Z ⟨z1, z2, z3⟩ hlo
  clear b1 hb12
  go_wp2_with fail
  refine (only_any ao len cap w1.heap.size 3 [8, 9, 10] _ HL.out HC.out (by omega) HS1.out rfl HK.out HP.out).mono ?_
  rintro e w3 ⟨rfl, b2⟩
  have HBE : Hid (Below w.heap.size w w3) := HB.out.trans (b2.mono HB.out.size)
  go_wp2
  go_ret
  exact ⟨rfl, HBE.out⟩
end Go.Proofs.YtomdjmemglnfaaaGreatDoor.Q
