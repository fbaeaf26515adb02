/- plays at an order step, only over the kind 7: their contracts. -/
import Derived.Test.YtiopdoeoonepmadGreatDoorRcmp
import Derived.Test.YtiopdoeoonepmadGreatDoorOps
import Derived.Lib.QuietBelow
import Derived.Deep.RegionWith
import Derived.Laws.Cells
namespace Go.Proofs.YtiopdoeoonepmadGreatDoor
open Go.RowKit

set_option maxRecDepth 100000 in
set_option maxHeartbeats 3000000 in
theorem plays_order (o : Step) (w : World) (hk : o.kind = 7) (ha : o.a.size ≤ maxLen) (hb : o.b.size ≤ maxLen) :
    Calls Tryz.prog 16 #[.agg #[.int .i64 o.kind, .string o.a, .string o.b, .int .i64 o.n, .slice o.lp o.ll o.lc]] w fun e w' => e = .returned (.bool true) ∧ Below w.heap.size w w' := by
  obtain ⟨k, a, b, n, lp, ll, lc⟩ := o
  simp only at hk ha hb ⊢
  subst hk
  have HM1 := hide ha
  have HM2 := hide hb
  have HB0 : Hid (Below w.heap.size w (w.alloc (.cells #[.int .i64 7, .string a, .string b, .int .i64 n, .slice lp ll lc] 35))) := (Below.refl _ _).alloc (Nat.le_refl _) _
  obtain ⟨w0, Hw0⟩ : ∃ w0, Hid (w.alloc (.cells #[.int .i64 7, .string a, .string b, .int .i64 n, .slice lp ll lc] 35) = w0) := ⟨w.alloc (.cells #[.int .i64 7, .string a, .string b, .int .i64 n, .slice lp ll lc] 35), rfl⟩
  have c1 : w0.cell? ⟨w.heap.size, 1, none⟩ = some (.string a) := by rw [← Hw0.out]; simp
  have c2 : w0.cell? ⟨w.heap.size, 2, none⟩ = some (.string b) := by rw [← Hw0.out]; simp
  have k1 := cell_regrown c1
  have k2 := cell_regrown c2
  obtain ⟨c, HC⟩ : ∃ c, Hid (cmpF a.data.toList b.data.toList = c) := ⟨cmpF a.data.toList b.data.toList, rfl⟩
  have cC : ∀ d os, Calls Tryz.prog 14 #[.string a, .string b] (Sort.grow (redrawn w0 d) os) fun e w'' => e = .returned (.int .i64 c) ∧ ∃ p : Regrown, w'' = Sort.grow (redrawn w0 p.d) p.os := fun d os => by
    have := compare_any a b (Sort.grow (redrawn w0 d) os) HM1.out HM2.out
    rw [HC.out] at this
    exact Calls.regrown_of this
  have cR : ∀ d os, Calls Tryz.prog 32 #[.string a, .string b] (Sort.grow (redrawn w0 d) os) fun e w'' => e = .returned (.int .i64 c) ∧ ∃ p : Regrown, w'' = Sort.grow (redrawn w0 p.d) p.os := fun d os => by
    have := refCompare_any a b (Sort.grow (redrawn w0 d) os) HM1.out HM2.out
    rw [HC.out] at this
    exact Calls.regrown_of this
  rw [Hw0.out] at HB0
  go_enter Tryz.func16, Tryz.ntmps16
  go_wp2_with fail
  rw [Hw0.out]
  refine wp_region_quiet_below (by kernel_rfl) (by kernel_rfl) ?_
  repeat (quiet_step (first | (go_at_call 14; exact cC _ _) | (go_at_call 32; exact cR _ _)))
  refine wpQuiet_nil ?_
  intro _ hw'
  obtain ⟨⟨dq, osq⟩, hw''⟩ := hw'
  subst hw''
  have HBE : Hid (Below w.heap.size w (Sort.grow (redrawn w0 dq) osq)) := HB0.out.trans ((below_regrown w0 dq osq).mono HB0.out.size)
  go_wp2
  go_ret
  exact ⟨ret_bool (by simp), HBE.out⟩

/-- a step, loaded whole -/
def load35 (v : Value) : Sem Value := Instr.loadAt 35 v
theorem load35_eq (v : Value) : Instr.loadAt 35 v = load35 v := rfl
theorem size35 : (Tryz.prog.info? 35).map (·.size) = some 5 := by kernel_rfl
theorem run_load35 (w : World) (p : Addr) (i : Nat) (o : Step) (S : StepAt w p i o) : (load35 (.pointer (some (p.add (i * 5))))).run Tryz.prog w = .ok (.agg #[.int .i64 o.kind, .string o.a, .string o.b, .int .i64 o.n, .slice o.lp o.ll o.lc]) w := by
  have hl := run_loadCells_list (P := Tryz.prog) (w := w) (p.add (i * 5)) [.int .i64 o.kind, .string o.a, .string o.b, .int .i64 o.n, .slice o.lp o.ll o.lc] (fun j v hv => by
    rw [add_add]
    match j, hv with
    | 0, hv => cases hv; exact S.c0
    | 1, hv => cases hv; exact S.c1
    | 2, hv => cases hv; exact S.c2
    | 3, hv => cases hv; exact S.c3
    | 4, hv => cases hv; exact S.c4
    | j + 5, hv => simp at hv)
  unfold load35
  cases hq : Tryz.prog.info? 35 with
  | none => have := size35; simp [hq] at this
  | some x =>
    have hs : x.size = 5 := by have := size35; simpa [hq] using this
    have hagg : (isAgg 35).run Tryz.prog w = .ok true w := by
      unfold isAgg
      rw [Sem.run_bind, run_underlying Tryz.underlying35 w]
      rfl
    simp [Instr.loadAt, Instr.sureAddr, loadVar, Sem.run_bind, hagg, sizeOf, typeInfo, hq, hs]
    simp at hl
    simp [hl]
attribute [local go_sem ↓] load35_eq
theorem below_on2 {a b c : World} (h1 : Below a.heap.size a b) (h2 : Below b.heap.size b c) : Below a.heap.size a c := h1.trans (h2.mono h1.size)
theorem StepAt.on {w w' : World} {p : Addr} {i : Nat} {o : Step} (S : StepAt w p i o) (hb : Below w.heap.size w w') : StepAt w' p i o := by
  have hlt : ∀ m, (p.add m).block = p.block := fun m => by unfold Addr.add; split <;> rfl
  have h0 := World.block_lt_of_cell? _ _ S.c0
  rw [hlt] at h0
  exact ⟨by rw [hb.cell (by rw [hlt]; exact h0)]; exact S.c0, by rw [hb.cell (by rw [hlt]; exact h0)]; exact S.c1, by rw [hb.cell (by rw [hlt]; exact h0)]; exact S.c2, by rw [hb.cell (by rw [hlt]; exact h0)]; exact S.c3, by rw [hb.cell (by rw [hlt]; exact h0)]; exact S.c4, S.ha, S.hb, S.hk, S.hn⟩

set_option maxRecDepth 100000 in
set_option maxHeartbeats 3000000 in
theorem only_order (ao : Option Addr) (len cap kb : Nat) (w : World) (hl : len ≤ cap) (hc : cap ≤ maxLen) (hst : ∀ i, i < len → ∃ p o, ao = some p ∧ StepAt w p i o) (hk : w.cell? ⟨kb, 0, none⟩ = some (.int .i64 7)) :
    Calls Tryz.prog 11 #[.slice ao len cap, .slice (some ⟨kb, 0, none⟩) 1 1] w fun e w' => e = .returned (.bool true) ∧ Below w.heap.size w w' := by
  have HST := hide hst
  have HK := hide hk
  unfold maxLen at hc
  clear hst hk
  go_enter Tryz.func11, Tryz.ntmps11
  go_wp2
  go_loopw [5, 6] (fun u _ wr => ∃ i : Nat, i ≤ len ∧ u = .int .i64 i ∧ Below w.heap.size w wr) (fun u _ _ => len - (intOf u).toNat)
  case atStart => exact ⟨0, Nat.zero_le _, rfl, Below.refl _ _⟩
  case round =>
    obtain ⟨i, hi, rfl, hw⟩ := hrel
    by_cases hlt : i < len
    · obtain ⟨p, o, rfl, S0⟩ := HST.out i hlt
      have S := hide (S0.on hw)
      have hk := hw.cell (p := ⟨kb, 0, none⟩) (World.block_lt_of_cell? _ _ HK.out)
      rw [HK.out] at hk
      have s0 := S.out.c0
      clear S0
      obtain ⟨wr0, Hwr0⟩ : ∃ wr0, wr0 = wr := ⟨wr, rfl⟩
      rw [← Hwr0] at S hk s0 hw ⊢
      clear Hwr0
      go_wp2
      go_loopw [6] (fun v wx => ∃ j : Nat, j ≤ 1 ∧ v = .int .i64 j ∧ Below wr0.heap.size wr0 wx) (fun v _ => 1 - (intOf v).toNat)
      case atStart => exact ⟨0, Nat.zero_le _, rfl, Below.refl _ _⟩
      case round =>
        obtain ⟨j, hj, rfl, hx⟩ := hrel
        by_cases hj1 : j < 1
        · obtain rfl : j = 0 := by omega
          have SX := hide (S.out.on hx)
          have kx := hx.cell (p := ⟨kb, 0, none⟩) (World.block_lt_of_cell? _ _ hk)
          rw [hk] at kx
          have g0 := cell_regrown SX.out.c0
          have gk := cell_regrown kx
          by_cases ho : o.kind = 7
          · have HPL := hide (fun W => plays_order o W ho S.out.ha S.out.hb)
            have ho' : (o.kind == 7) = true := by simpa using ho
            have hld : ∀ d os, (load35 (.pointer (some (p.add (i * 5))))).run Tryz.prog (Sort.grow (redrawn wr d) os) = .ok (.agg #[.int .i64 o.kind, .string o.a, .string o.b, .int .i64 o.n, .slice o.lp o.ll o.lc]) (Sort.grow (redrawn wr d) os) := fun d os =>
              run_load35 _ p i o (SX.out.on (below_regrown wr d os))
            have cP : ∀ d os, Calls Tryz.prog 16 #[.agg #[.int .i64 o.kind, .string o.a, .string o.b, .int .i64 o.n, .slice o.lp o.ll o.lc]] (Sort.grow (redrawn wr d) os) fun e w'' => e = .returned (.bool true) ∧ ∃ p : Regrown, w'' = Sort.grow (redrawn wr p.d) p.os := fun d os =>
              Calls.regrown_of (HPL.out _)
            clear ho
            go_wp2_with fail
            refine wp_region_quiet_below (by kernel_rfl) (by kernel_rfl) ?_
            repeat (quiet_step ((go_at_call 16; exact cP _ _)))
            refine wpQuiet_nil ?_
            intro _ hw'
            obtain ⟨⟨dq, osq⟩, hw''⟩ := hw'
            subst hw''
            have HBE : Hid (Below wr0.heap.size wr0 (Sort.grow (redrawn wr dq) osq)) := below_on2 hx (below_regrown wr dq osq)
            go_wp2
            go_roundw
            case rel => exact ⟨1, by omega, by go_num, HBE.out⟩
            case measure => simp [intOf]
          · have ho' : (o.kind == 7) = false := by simpa using ho
            clear ho
            go_wp2_with fail
            refine wp_region_quiet_below (by kernel_rfl) (by kernel_rfl) ?_
            repeat (quiet_step (fail))
            refine wpQuiet_nil ?_
            intro _ hw'
            obtain ⟨⟨dq, osq⟩, hw''⟩ := hw'
            subst hw''
            have HBE : Hid (Below wr0.heap.size wr0 (Sort.grow (redrawn wr dq) osq)) := below_on2 hx (below_regrown wr dq osq)
            go_wp2
            go_roundw
            case rel => exact ⟨1, by omega, by go_num, HBE.out⟩
            case measure => simp [intOf]
        · go_wp2
          go_roundw
          case rel => exact ⟨i + 1, by omega, by go_num, below_on2 hw hx⟩
          case measure => simp [intOf]; omega
    · go_wp2
      go_ret
      exact ⟨rfl, hw⟩
end Go.Proofs.YtiopdoeoonepmadGreatDoor
