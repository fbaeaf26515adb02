/- only, over any list of kinds: its contract. -/
import Derived.Test.YtomdjmemglnfaaaGreatDoorSt
namespace Go.Proofs.YtomdjmemglnfaaaGreatDoor
open Go.RowKit
attribute [local go_sem ↓] load35_eq

set_option maxRecDepth 100000 in
set_option maxHeartbeats 3000000 in
theorem only_any (ao : Option Addr) (len cap kb nk : Nat) (K : List Int) (w : World) (hl : len ≤ cap) (hc : cap ≤ maxLen) (hnk : nk ≤ 100) (hst : ∀ i, i < len → ∃ p o, ao = some p ∧ StepAt w p i o)
    (hK : K.length = nk) (hk : ∀ j, j < nk → w.cell? ⟨kb, j, none⟩ = some (.int .i64 (K.getD j 0)))
    (hpl : ∀ i p o W, i < len → ao = some p → StepAt w p i o → Below w.heap.size w W → o.kind ∈ K → Calls Tryz.prog 9 #[.agg #[.int .i64 o.kind, .string o.a, .string o.b, .int .i64 o.n, .slice o.lp o.ll o.lc]] W fun e w' => e = .returned (.bool true) ∧ Below W.heap.size W w') :
    Calls Tryz.prog 5 #[.slice ao len cap, .slice (some ⟨kb, 0, none⟩) nk nk] w fun e w' => e = .returned (.bool true) ∧ Below w.heap.size w w' := by
  have HST := hide hst
  have HK := hide hk
  have HPW := hide hpl
  have HKL := hide hK
  unfold maxLen at hc
  clear hst hk hpl hK
  go_enter Tryz.func5, Tryz.ntmps5
  go_wp2
  go_loopw [5, 6] (fun u _ wr => ∃ i : Nat, i ≤ len ∧ u = .int .i64 i ∧ Below w.heap.size w wr) (fun u _ _ => len - (intOf u).toNat)
  case atStart => exact ⟨0, Nat.zero_le _, rfl, Below.refl _ _⟩
  case round =>
    obtain ⟨i, hi, rfl, hw⟩ := hrel
    by_cases hlt : i < len
    · obtain ⟨p, o, rfl, S0⟩ := HST.out i hlt
      have S := hide (S0.on hw)
      have HPI : Hid (∀ W, Below w.heap.size w W → o.kind ∈ K → Calls Tryz.prog 9 #[.agg #[.int .i64 o.kind, .string o.a, .string o.b, .int .i64 o.n, .slice o.lp o.ll o.lc]] W fun e w' => e = .returned (.bool true) ∧ Below W.heap.size W w') := fun W => HPW.out i p o W hlt rfl S0
      have s0 := S.out.c0
      clear S0
      obtain ⟨wr0, Hwr0⟩ : ∃ wr0, wr0 = wr := ⟨wr, rfl⟩
      rw [← Hwr0] at S s0 hw ⊢
      clear Hwr0
      go_wp2
      go_loopw [6] (fun v wx => ∃ j : Nat, j ≤ nk ∧ v = .int .i64 j ∧ Below wr0.heap.size wr0 wx) (fun v _ => nk - (intOf v).toNat)
      case atStart => exact ⟨0, Nat.zero_le _, rfl, Below.refl _ _⟩
      case round =>
        obtain ⟨j, hj, rfl, hx⟩ := hrel
        by_cases hj1 : j < nk
        · have SX := hide (S.out.on hx)
          have hwx := below_on2 hw hx
          obtain ⟨z, Hz⟩ : ∃ z, Hid (K.getD j 0 = z) := ⟨K.getD j 0, rfl⟩
          have hz0 := HK.out j hj1
          rw [Hz.out] at hz0
          have kx : wr.cell? ⟨kb, j, none⟩ = some (.int .i64 z) := by rw [hwx.cell (World.block_lt_of_cell? _ _ hz0)]; exact hz0
          have HZM : Hid (z ∈ K) := by
            show z ∈ K
            rw [← Hz.out, List.getD, List.getElem?_eq_getElem (by rw [HKL.out]; exact hj1)]; exact List.getElem_mem _
          clear hz0
          have g0 := cell_regrown SX.out.c0
          have gk := cell_regrown kx
          by_cases ho : o.kind = z
          · have HM : Hid (o.kind ∈ K) := by show _ ∈ _; rw [ho]; exact HZM.out
            have ho' : (o.kind == z) = true := by simpa using ho
            have hld : ∀ d os, (load35 (.pointer (some (p.add (i * 5))))).run Tryz.prog (Sort.grow (redrawn wr d) os) = .ok (.agg #[.int .i64 o.kind, .string o.a, .string o.b, .int .i64 o.n, .slice o.lp o.ll o.lc]) (Sort.grow (redrawn wr d) os) := fun d os =>
              run_load35 _ p i o (SX.out.on (below_regrown wr d os))
            have cP : ∀ d os, Calls Tryz.prog 9 #[.agg #[.int .i64 o.kind, .string o.a, .string o.b, .int .i64 o.n, .slice o.lp o.ll o.lc]] (Sort.grow (redrawn wr d) os) fun e w'' => e = .returned (.bool true) ∧ ∃ p : Regrown, w'' = Sort.grow (redrawn wr p.d) p.os := fun d os =>
              Calls.regrown_of (HPI.out _ (below_on2 hwx (below_regrown wr d os)) HM.out)
            clear ho
            go_wp2_with fail
            refine wp_region_quiet_below (by kernel_rfl) (by kernel_rfl) ?_
            repeat (quiet_step ((go_at_call 9; exact cP _ _)))
            refine wpQuiet_nil ?_
            intro _ hw'
            obtain ⟨⟨dq, osq⟩, hw''⟩ := hw'
            subst hw''
            have HBE : Hid (Below wr0.heap.size wr0 (Sort.grow (redrawn wr dq) osq)) := below_on2 hx (below_regrown wr dq osq)
            go_wp2
            go_roundw
            case rel => exact ⟨j + 1, by omega, by go_num, HBE.out⟩
            case measure => simp [intOf]; omega
          · have ho' : (o.kind == z) = false := by simpa using ho
            clear ho
            go_wp2_with fail
            refine wp_region_quiet_below (by kernel_rfl) (by kernel_rfl) ?_
            repeat (quiet_step (fail))
            refine wpQuiet_nil ?_
            intro _ hw'
            obtain ⟨⟨dq, osq⟩, hw''⟩ := hw'
            subst hw''
            have HBE : Hid (Below wr0.heap.size wr0 (Sort.grow (redrawn wr dq) osq)) := below_on2 hx (below_regrown wr dq osq)
            go_wp2
            go_roundw
            case rel => exact ⟨j + 1, by omega, by go_num, HBE.out⟩
            case measure => simp [intOf]; omega
        · go_wp2
          go_roundw
          case rel => exact ⟨i + 1, by omega, by go_num, below_on2 hw hx⟩
          case measure => simp [intOf]; omega
    · go_wp2
      go_ret
      exact ⟨rfl, hw⟩
end Go.Proofs.YtomdjmemglnfaaaGreatDoor
