/- The reference's Full: its contract. -/
import Derived.Test.YtmmgbcmcjakdoaaWRa
namespace Go.Proofs.Ytmmgbcmcjakdoaa
open Go.RowKit V

def ld55 (v : Value) : Sem Value := Instr.loadAt 41 v
theorem ld55_eq (v : Value) : Instr.loadAt 41 v = ld55 v := rfl
def st55 (p v : Value) : Sem Unit := Instr.storeAt 41 p v
theorem st55_eq (p v : Value) : Instr.storeAt 41 p v = st55 p v := rfl
theorem size55 : (Try.prog.info? 41).map (·.size) = some 16 := by kernel_rfl
theorem run_lv55 {w : World} {g : Nat} {T : TypeId} {f : Nat → Int} (A : Arr w g T f) : (loadVar 41 ⟨g, 0, none⟩).run Try.prog w = .ok (VA f) w := by
  have hl := run_loadCells_list (P := Try.prog) (w := w) ⟨g, 0, none⟩ (VC f).toList (fun j v hv => by
    rw [Addr.add_lit, Nat.zero_add]
    have hj : j < 16 := by have := (List.getElem?_eq_some_iff.1 hv).1; simpa [VC] using this
    rw [A.cell j hj]
    have := VC_at f j hj
    simp only [Array.getElem?_toList] at hv
    rw [this] at hv; exact hv)
  cases hq : Try.prog.info? 41 with
  | none => have := size55; simp [hq] at this
  | some x =>
    have hs : x.size = 16 := by have := size55; simpa [hq] using this
    have hagg : (isAgg 41).run Try.prog w = .ok true w := by
      unfold isAgg
      rw [Sem.run_bind, run_underlying Try.underlying41 w]
      rfl
    have e : (VC f).toList.length = 16 := by simp [VC]
    rw [e] at hl
    simp [loadVar, Sem.run_bind, hagg, sizeOf, typeInfo, hq, hs, hl, VA]
theorem run_ld55 {w : World} {g : Nat} {T : TypeId} {f : Nat → Int} (A : Arr w g T f) : (ld55 (.pointer (some ⟨g, 0, none⟩))).run Try.prog w = .ok (VA f) w := by
  unfold ld55
  simp only [Instr.loadAt, Instr.sureAddr, Sem.run_bind, Sem.run_pure, Result.andThen]
  exact run_lv55 A
theorem run_st55 {w : World} {g : Nat} {T : TypeId} {f f' : Nat → Int} (A : Arr w g T f) :
    (st55 (.pointer (some ⟨g, 0, none⟩)) (VA f')).run Try.prog w = .ok () (w.setRow g (VC f')) := by
  unfold st55
  have h := run_storeCells_from (P := Try.prog) g T (VC f').toList 0 (VC f) w A (by simp [VC]) (VC_one f')
  cases hq : Try.prog.info? 41 with
  | none => have := size55; simp [hq] at this
  | some x =>
    have hs : x.size = 16 := by have := size55; simpa [hq] using this
    simp only [Instr.storeAt, Instr.sureAddr, Sem.run_bind, Sem.run_pure, Result.andThen, storeVar, sizeOf, typeInfo, cells_VA, VC_size]
    simp at h
    simp [h, hq, hs]
theorem res55 {fn : Func} {p : Tmp} {w : World} {g : Nat} {T : TypeId} {f : Nat → Int} (h : fn.results = #[.cell p 41]) {tmps : Array Value} (hp : tmps.getD p undef = .pointer (some ⟨g, 0, none⟩)) (A : Arr w g T f) :
    (results fn tmps).run Try.prog w = .ok (VA f) w := by
  have hl := run_lv55 A
  simp only [results, h]
  rw [Array.getD_eq_getD_getElem?] at hp
  simp [hp, asAddr, hl]
attribute [local go_sem ↓] ld55_eq st55_eq

set_option maxHeartbeats 1600000 in
theorem full_any (ao : Option Addr) (n cap : Nat) (Z : List Int) (w : World) (hS : Src w ao n cap Z) :
    Calls Try.prog 33 #[.slice ao n cap] w fun e w' => e = .returned (VA (at' Z)) ∧ Below w.heap.size w w' := by
  have HS := hide hS
  clear hS
  go_enter Try.func33, Try.ntmps33
  go_wp2
  go_loopw [4] (fun i wr => ∃ k : Nat, k ≤ 16 ∧ k ≤ n ∧ i = .int .i64 k ∧ Hid (Arr wr w.heap.size 41 fun _ => 0) ∧ Hid (Arr wr (w.heap.size + 1) 41 fun r => if r < k then at' Z r else 0) ∧ Hid (Below w.heap.size w wr)) (fun i _ => 16 - (intOf i).toNat)
  case atStart =>
    rw [zeros_VC]
    exact ⟨0, Nat.zero_le _, Nat.zero_le _, rfl, (arr_new w 41 _).alloc _, (arr_new2 w _ 41 _).congr (fun r _ => by simp), ((Below.refl _ _).alloc (Nat.le_refl _) _).alloc (by simp) _⟩
  case round =>
    obtain ⟨k, hk, hkn, rfl, A0, A1, HB⟩ := hrel
    have fin : (16 ≤ k ∨ n ≤ k) → ∀ r, r < 16 → (if r < k then at' Z r else 0) = at' Z r := by
      intro h r hr
      by_cases hr' : r < k
      · simp [hr']
      · rw [if_neg hr']; unfold at'; rw [if_pos hr, List.getD, List.getElem?_eq_none (by have := HS.out.1; omega)]; rfl
    have FIN := hide fin
    clear fin
    by_cases hlt : k < 16
    · by_cases hln : k < n
      · have SB := HS.out.below HB.out
        have hat : at' Z k = clamp (Z.getD k 0) := by unfold at'; rw [if_pos hlt]
        obtain ⟨z, hz⟩ : ∃ z, Z.getD k 0 = z := ⟨_, rfl⟩
        obtain ⟨ad, rfl⟩ : ∃ ad, ao = some ad := by
          cases ao with
          | none => have := SB.2.1 rfl; omega
          | some ad => exact ⟨ad, rfl⟩
        have hcell := SB.2.2 ad rfl k hln
        rw [hz] at hcell hat
        have HA := hide hat
        have c1 := A1.out.cell k hlt
        have z1 := A1.out.frozen k
        have FS : Hid (∀ v, v = at' Z k → ∀ r, r < 16 → fset (fun r => if r < k then at' Z r else 0) k v r = if r < k + 1 then at' Z r else 0) := by
          intro v hv r _
          unfold fset
          by_cases e : r = k
          · subst e; simp [hv]
          · by_cases h : r < k
            · simp [e, h]; omega
            · simp [e, h]; omega
        clear SB hz hat FIN
        by_cases h1 : z < 0
        · have HC : Hid (0 = at' Z k) := by show _ = _; rw [HA.out]; unfold clamp; rw [if_pos h1]
          go_wp2
          go_roundw
          case rel => exact ⟨k + 1, by omega, by omega, by go_num, A0.out.setOther _ _ (by simp), (A1.out.set k _).congr (FS.out _ HC.out), HB.out.setCell (by simp) _⟩
          case measure => simp [intOf]; omega
        · by_cases h2 : 1000000000 < z
          · have HC : Hid (1000000000 = at' Z k) := by show _ = _; rw [HA.out]; unfold clamp; rw [if_neg h1, if_pos h2]
            go_wp2
            go_roundw
            case rel => exact ⟨k + 1, by omega, by omega, by go_num, A0.out.setOther _ _ (by simp), (A1.out.set k _).congr (FS.out _ HC.out), HB.out.setCell (by simp) _⟩
            case measure => simp [intOf]; omega
          · have HC : Hid (z = at' Z k) := by show _ = _; rw [HA.out]; unfold clamp; rw [if_neg h1, if_neg h2]
            go_wp2
            go_roundw
            case rel => exact ⟨k + 1, by omega, by omega, by go_num, A0.out.setOther _ _ (by simp), (A1.out.set k _).congr (FS.out _ HC.out), HB.out.setCell (by simp) _⟩
            case measure => simp [intOf]; omega
      · have A1' := A1.out.congr (FIN.out (Or.inr (by omega)))
        have l1 := run_ld55 A1'
        have s1 := run_st55 (f' := at' Z) A0.out
        clear FIN
        go_wp2
        exact bodyPost_ret (v := VA (at' Z)) (res55 Try.results33 rfl (A0.out.setRow)) rfl ⟨rfl, V.below_setRow HB.out (Nat.le_refl _)⟩
    · have A1' := A1.out.congr (FIN.out (Or.inl (by omega)))
      have l1 := run_ld55 A1'
      have s1 := run_st55 (f' := at' Z) A0.out
      clear FIN
      go_wp2
      exact bodyPost_ret (v := VA (at' Z)) (res55 Try.results33 rfl (A0.out.setRow)) rfl ⟨rfl, V.below_setRow HB.out (Nat.le_refl _)⟩
end Go.Proofs.Ytmmgbcmcjakdoaa
