/- shuffled: its contract. -/
import Derived.Test.YtmhdhedjeaaciaaLTr
import Derived.Deep.OwnRows
import Derived.Laws.MakeOwn
namespace Go.Proofs.Ytmhdhedjeaaciaa
open Go.RowKit

/-- the block g is a row of these numbers -/
def IA (w : World) (g : Nat) (F : Array Int) : Prop := w.heap[g]? = some (.cells (F.map (fun z => Value.int .i64 z)) 3 (0, 0))
theorem IA.lt {w : World} {g : Nat} {F : Array Int} (h : IA w g F) : g < w.heap.size := (Array.getElem?_eq_some_iff.1 h).1
theorem IA.cell {w : World} {g : Nat} {F : Array Int} (h : IA w g F) (j : Nat) (hj : j < F.size) : w.cell? ⟨g, j, none⟩ = some (.int .i64 F[j]) := by
  unfold IA at h
  rw [cell_of_row w g j _ 3 _ h]; simp [hj]
theorem IA.frozen {w : World} {g : Nat} {F : Array Int} (h : IA w g F) (j : Nat) : w.frozen? ⟨g, j, none⟩ = false := frozen_of_row w g j _ 3 h
theorem IA.set {w : World} {g : Nat} {F : Array Int} (h : IA w g F) (j : Nat) (z : Int) : IA (w.setCell ⟨g, j, none⟩ (.int .i64 z)) g (F.setIfInBounds j z) := by
  unfold IA at h ⊢
  rw [heap_setCell_same w g j _ 3 _ h, Array.map_setIfInBounds]
theorem IA.below {w w' : World} {g : Nat} {F : Array Int} (h : IA w g F) (hb : Below w.heap.size w w') : IA w' g F := (hb.block g h.lt).trans h
/-- a row of numbers that came in -/
def NS (w : World) (ao : Option Addr) (m : Nat) (Z : List Int) : Prop := Z.length = m ∧ ∀ t, t < m → ∃ ad, ao = some ad ∧ w.cell? (ad.add t) = some (.int .i64 (Z.getD t 0))
theorem NS.below {w w' : World} {ao : Option Addr} {m : Nat} {Z : List Int} (h : NS w ao m Z) (hb : Below w.heap.size w w') : NS w' ao m Z := by
  refine ⟨h.1, fun t ht => ?_⟩
  obtain ⟨ad, e, hc⟩ := h.2 t ht
  exact ⟨ad, e, (hb.cell (World.block_lt_of_cell? _ _ hc)).trans hc⟩
def mkI (a b : Value) : Sem Value := Instr.makeSlice 49 a b
theorem mkI_eq (a b : Value) : Instr.makeSlice 49 a b = mkI a b := rfl
attribute [local go_sem ↓] mkI_eq
theorem info3 : (Try.prog.info? 3).map (fun i => (i.zero, i.size, i.bytes)) = some (some (.int .i64 0), 1, 8) := by kernel_rfl
theorem zeros_map (n : Nat) : madeCells #[Value.int .i64 0] n = Array.replicate n (Value.int .i64 0) := by
  apply Array.ext
  · simp [madeCells]
  · intro i h1 h2
    simp [madeCells, Nat.mod_one]
theorem run_mkI (w : World) (n : Nat) (hn : n ≤ 1048576) : (mkI (.int .i64 (n : Int)) (.int .i64 (n : Int))).run Try.prog w = .ok (.slice (some ⟨w.heap.size, 0, none⟩) n n) (w.alloc (.cells (Array.replicate n (Value.int .i64 0)) 3)) := by
  obtain ⟨i0, hi, hz0, hz1, hz2⟩ := info_parts info3
  have h := run_make (P := Try.prog) w 49 3 i0 (.int .i64 0) Try.underlying49 hi hz0 .i64 .i64 (n : Int) (n : Int) (by omega) (by omega) (by rw [hz2]; omega) (by omega)
  rw [hz1, Int.toNat_natCast, Nat.mul_one] at h
  have hcl : (Value.int .i64 0).cells = #[Value.int .i64 0] := rfl
  rw [hcl, zeros_map] at h
  exact h
def rk (n k : Nat) : Array Int := ((List.range n).map (fun t : Nat => if t < k then (t : Int) else 0)).toArray
theorem rk_size (n k : Nat) : (rk n k).size = n := by simp [rk]
theorem rk_zero (n : Nat) : rk n 0 = Array.replicate n 0 := by
  apply Array.ext
  · simp [rk]
  · intro i h1 h2
    simp [rk]
theorem rk_step (n k : Nat) (_ : k < n) : (rk n k).setIfInBounds k (k : Int) = rk n (k + 1) := by
  apply Array.ext
  · simp [rk]
  · intro i h1 h2
    simp only [rk_size] at h2
    rw [Array.getElem_setIfInBounds (by rw [rk_size]; exact h2)]
    by_cases e : k = i
    · subst e; simp [rk]
    · rw [if_neg e]
      simp only [rk, List.getElem_toArray, List.getElem_map, List.getElem_range]
      by_cases h3 : i < k
      · rw [if_pos h3, if_pos (by omega)]
      · rw [if_neg h3, if_neg (by omega)]
theorem rk_all (n : Nat) : (rk n n).toList = (List.range n).map (fun t : Nat => (t : Int)) := by
  simp only [rk]
  refine List.map_congr_left fun t ht => ?_
  rw [if_pos (List.mem_range.1 ht)]
theorem swap_eq (F : Array Int) (i j : Nat) (hi : i < F.size) (hj : j < F.size) : (F.setIfInBounds i F[j]).setIfInBounds j F[i] = F.swap i j hi hj := by
  simp [Array.swap, Array.setIfInBounds, hi, hj]
/-- a row of the numbers below n, in some order -/
def GivesP (w w' : World) (e : Ending) (n : Nat) : Prop := ∃ g F, e = .returned (.slice (some ⟨g, 0, none⟩) n n) ∧ IA w' g F ∧ F.toList.Perm ((List.range n).map (fun t : Nat => (t : Int))) ∧ Below w.heap.size w w' ∧ w.heap.size ≤ g
theorem below_dr (w : World) : Below w.heap.size w w.drew := ⟨rfl, rfl, rfl, Nat.le_refl _, fun _ _ => rfl⟩
set_option maxRecDepth 100000 in
set_option maxHeartbeats 8000000 in
theorem shuffled_any (n : Nat) (po : Option Addr) (m pc : Nat) (Z : List Int) (w : World) (hN : NS w po m Z) (hn : n ≤ 1048576) (hm : m ≤ 1048576) (hZ : ∀ z ∈ Z, -9223372036854775808 ≤ z ∧ z ≤ 9223372036854775807) :
    Calls Try.prog 25 #[.int .i64 (n : Int), .slice po m pc] w fun e w' => GivesP w w' e n := by
  have HN := hide hN
  have HZ := hide hZ
  have hmk := run_mkI w n hn
  have HI0 : Hid (IA (w.alloc (.cells (Array.replicate n (Value.int .i64 0)) 3)) w.heap.size (rk n 0)) := by show IA _ _ _; unfold IA; rw [heap_alloc_new, rk_zero, Array.map_replicate]
  have HB0 := hide (below_new w (.cells (Array.replicate n (Value.int .i64 0)) 3))
  clear hN hZ
  go_enter Try.func25, Try.ntmps25
  go_wp2_with fail
  clear hmk
  go_loopw [13] (fun i wr => ∃ k : Nat, k ≤ n ∧ i = .int .i64 k ∧ Hid (IA wr w.heap.size (rk n k)) ∧ Hid (Below w.heap.size w wr)) (fun i _ => n - (intOf i).toNat)
  case atStart => exact ⟨0, Nat.zero_le _, rfl, HI0, HB0⟩
  case round =>
    obtain ⟨k, hk, rfl, HI, HB⟩ := hrel
    by_cases hlt : k < n
    · obtain ⟨z, c1⟩ : ∃ z, wr.cell? ⟨w.heap.size, k, none⟩ = some (.int .i64 z) := ⟨_, HI.out.cell k (by rw [rk_size]; exact hlt)⟩
      have f1 := HI.out.frozen k
      have HI2 := hide (HI.out.set k (k : Int))
      rw [rk_step n k hlt] at HI2
      have HB2 : Hid (Below w.heap.size w (wr.setCell ⟨w.heap.size, k, none⟩ (.int .i64 (k : Int)))) := HB.out.setCell (Nat.le_refl _) _
      go_wp2_with fail
      go_roundw
      case rel => exact ⟨k + 1, by omega, by go_num, HI2, HB2⟩
      case measure => simp [intOf]; omega
    · obtain rfl : k = n := by omega
      have HP0 : Hid ((rk k k).toList.Perm ((List.range k).map (fun t : Nat => (t : Int)))) := by show List.Perm _ _; rw [rk_all]
      have HZ0 : Hid ((rk k k).size = k) := rk_size k k
      go_wp2_with fail
      go_loopw [7] (fun i wr2 => ∃ (q : Nat) (F : Array Int), q ≤ k ∧ i = .int .i64 q ∧ Hid (IA wr2 w.heap.size F ∧ F.size = k ∧ F.toList.Perm ((List.range k).map (fun t : Nat => (t : Int)))) ∧ Hid (Below w.heap.size w wr2)) (fun i _ => k - (intOf i).toNat)
      case atStart => exact ⟨0, rk k k, Nat.zero_le _, rfl, ⟨HI.out, HZ0.out, HP0.out⟩, HB⟩
      case round =>
        obtain ⟨q, F, hq, rfl, HF, HBW⟩ := hrel
        by_cases hql : q < k
        · by_cases hqm : q < m
          · obtain ⟨pd, rfl, cp⟩ := (HN.out.below HBW.out).2 q hqm
            have hzb := HZ.out (Z.getD q 0) (by rw [show Z.getD q 0 = Z[q]'(by rw [HN.out.1]; exact hqm) by simp [List.getD, HN.out.1, hqm]]; exact List.getElem_mem _)
            obtain ⟨z, Hz⟩ : ∃ z, Hid (Z.getD q 0 = z) := ⟨_, rfl⟩
            rw [Hz.out] at cp hzb
            have hk0 : (k : Int) ≠ 0 := by omega
            have hkn : (((k : Int) == 0) = false) := by simp; omega
            have ht1 := Int.tmod_lt_of_pos z (show (0 : Int) < (k : Int) by omega)
            have ht2 : -(k : Int) < z.tmod (k : Int) := by
              have h1 : (z.tmod (k : Int)).natAbs < k := by rw [Int.natAbs_tmod, Int.natAbs_natCast]; exact Nat.mod_lt _ (by omega)
              omega
            obtain ⟨t0, Ht0⟩ : ∃ t0, z.tmod (k : Int) = t0 := ⟨_, rfl⟩
            rw [Ht0] at ht1 ht2
            have hwt : IntKind.i64.wrap t0 = t0 := by rw [IntKind.wrap_i64]; omega
            by_cases hneg : t0 < 0
            · have g1 : decide (t0 < 0) = true := decide_eq_true hneg
              obtain ⟨j, hj⟩ : ∃ j : Nat, t0 + (k : Int) = (j : Int) := ⟨(t0 + k).toNat, by omega⟩
              have hjk : j < k := by omega
              have hw2 : IntKind.i64.wrap (t0 + (k : Int)) = (j : Int) := by rw [IntKind.wrap_i64]; omega
              clear hneg hj
              have hqF : q < F.size := by rw [HF.out.2.1]; exact hql
              have hjF : j < F.size := by rw [HF.out.2.1]; exact hjk
              have ca := HF.out.1.cell q hqF
              have cb := HF.out.1.cell j hjF
              have I1 : IA (wr.drew.setCell ⟨w.heap.size, q, none⟩ (.int .i64 F[j])) w.heap.size (F.setIfInBounds q F[j]) := (show IA wr.drew w.heap.size F from HF.out.1).set q F[j]
              have I2 := I1.set j F[q]
              rw [swap_eq F q j hqF hjF] at I2
              have c1 := I1.cell j (by simpa using hjF)
              have f1 := I1.frozen j
              have HC := hide (And.intro ca (And.intro cb (And.intro c1 f1)))
              have HI2 : Hid (IA ((wr.drew.setCell ⟨w.heap.size, q, none⟩ (.int .i64 F[j])).setCell ⟨w.heap.size, j, none⟩ (.int .i64 F[q])) w.heap.size (F.swap q j hqF hjF) ∧ (F.swap q j hqF hjF).size = k ∧ (F.swap q j hqF hjF).toList.Perm ((List.range k).map (fun t : Nat => (t : Int)))) := ⟨I2, by simpa using HF.out.2.1, (Array.swap_perm hqF hjF).toList.trans HF.out.2.2⟩
              have HB2 : Hid (Below w.heap.size w ((wr.drew.setCell ⟨w.heap.size, q, none⟩ (.int .i64 F[j])).setCell ⟨w.heap.size, j, none⟩ (.int .i64 F[q]))) := ((HBW.out.trans ((below_dr wr).mono HBW.out.size)).setCell (Nat.le_refl _) _).setCell (Nat.le_refl _) _
              clear ca cb I1 I2 c1 f1
              go_wp2_with fail
              refine region13 w.heap.size k q j F[q] F[j] _ _ _ _ _ _ _ _ _ _ _ _ _ _ _ _ _ _ _ _ _ _ _ _ _ _ _ _ _ _ _ _ _ _ _ _ _ _ _ _ _ _ _ _ _ _ _ _ _ _ _ _ _ _ _ _ _ hql hjk (by omega) HC.out.1 HC.out.2.1 (HF.out.1.frozen q) HC.out.2.2.1 HC.out.2.2.2 ?_
              go_wp2_with fail
              go_roundw
              case rel => exact ⟨q + 1, F.swap q j hqF hjF, by omega, by go_num, HI2, HB2⟩
              case measure => simp [intOf]; omega
            · have g1 : decide (t0 < 0) = false := decide_eq_false hneg
              obtain ⟨j, hj⟩ : ∃ j : Nat, t0 = (j : Int) := ⟨t0.toNat, by omega⟩
              have hjk : j < k := by omega
              subst hj
              clear hneg
              have hqF : q < F.size := by rw [HF.out.2.1]; exact hql
              have hjF : j < F.size := by rw [HF.out.2.1]; exact hjk
              have ca := HF.out.1.cell q hqF
              have cb := HF.out.1.cell j hjF
              have I1 : IA (wr.drew.setCell ⟨w.heap.size, q, none⟩ (.int .i64 F[j])) w.heap.size (F.setIfInBounds q F[j]) := (show IA wr.drew w.heap.size F from HF.out.1).set q F[j]
              have I2 := I1.set j F[q]
              rw [swap_eq F q j hqF hjF] at I2
              have c1 := I1.cell j (by simpa using hjF)
              have f1 := I1.frozen j
              have HC := hide (And.intro ca (And.intro cb (And.intro c1 f1)))
              have HI2 : Hid (IA ((wr.drew.setCell ⟨w.heap.size, q, none⟩ (.int .i64 F[j])).setCell ⟨w.heap.size, j, none⟩ (.int .i64 F[q])) w.heap.size (F.swap q j hqF hjF) ∧ (F.swap q j hqF hjF).size = k ∧ (F.swap q j hqF hjF).toList.Perm ((List.range k).map (fun t : Nat => (t : Int)))) := ⟨I2, by simpa using HF.out.2.1, (Array.swap_perm hqF hjF).toList.trans HF.out.2.2⟩
              have HB2 : Hid (Below w.heap.size w ((wr.drew.setCell ⟨w.heap.size, q, none⟩ (.int .i64 F[j])).setCell ⟨w.heap.size, j, none⟩ (.int .i64 F[q]))) := ((HBW.out.trans ((below_dr wr).mono HBW.out.size)).setCell (Nat.le_refl _) _).setCell (Nat.le_refl _) _
              clear ca cb I1 I2 c1 f1
              go_wp2_with fail
              refine region13 w.heap.size k q j F[q] F[j] _ _ _ _ _ _ _ _ _ _ _ _ _ _ _ _ _ _ _ _ _ _ _ _ _ _ _ _ _ _ _ _ _ _ _ _ _ _ _ _ _ _ _ _ _ _ _ _ _ _ _ _ _ _ _ _ _ hql hjk (by omega) HC.out.1 HC.out.2.1 (HF.out.1.frozen q) HC.out.2.2.1 HC.out.2.2.2 ?_
              go_wp2_with fail
              go_roundw
              case rel => exact ⟨q + 1, F.swap q j hqF hjF, by omega, by go_num, HI2, HB2⟩
              case measure => simp [intOf]; omega
          · go_wp2_with fail
            go_ret
            exact ⟨w.heap.size, F, rfl, HF.out.1, HF.out.2.2, HBW.out, Nat.le_refl _⟩
        · go_wp2_with fail
          go_ret
          exact ⟨w.heap.size, F, rfl, HF.out.1, HF.out.2.2, HBW.out, Nat.le_refl _⟩
end Go.Proofs.Ytmhdhedjeaaciaa
