/- A pair written into a row. -/
import Derived.Test.YtinicdnpkihbkaaEPb
namespace Go.Proofs.Ytinicdnpkihbkaa
open Go.RowKit
variable {w w' w2 : World} {g : Nat} {ao : Option Addr} {n c : Nat} {L : List Pr}

theorem pcs_set : ∀ (L : List Pr) (j : Nat) (f t : Int), j < L.length → ((pcs L).set (j * 2) (.int .i64 f)).set (j * 2 + 1) (.int .i64 t) = pcs (L.set j ⟨f, t⟩)
  | [], j, f, t, hj => absurd hj (Nat.not_lt_zero j)
  | e :: L, 0, f, t, _ => rfl
  | e :: L, j + 1, f, t, hj => by
    have ih := pcs_set L j f t (by simpa using hj)
    show ((.int .i64 e.f :: .int .i64 e.t :: pcs L : List Value).set ((j + 1) * 2) _).set ((j + 1) * 2 + 1) _ = .int .i64 e.f :: .int .i64 e.t :: pcs (L.set j ⟨f, t⟩)
    rw [← ih, show (j + 1) * 2 = j * 2 + 1 + 1 by omega]
    simp [List.set_cons_succ]
theorem PR.put (h : PR w ao n c L) (k : Nat) (hk : k < n) (f t : Int) : ∃ b w2, ao = some ⟨b, 0, none⟩ ∧ (stP (.pointer (some ⟨b, k * 2, none⟩)) (.agg #[.int .i64 f, .int .i64 t])).run Try.prog w = .ok () w2 ∧ PR w2 ao n c (L.set k ⟨f, t⟩) ∧ Ap w w2 ao ao := by
  have hl := h.len
  obtain ⟨b, rfl, hat⟩ := h.at k hk
  have c1 := hat.c1
  rw [Addr.add_lit] at c1
  have ht : w.there b (k * 2) 2 := fun j hj => by
    refine ⟨?_, h.frozenAt _⟩
    rcases (show j = 0 ∨ j = 1 by omega) with rfl | rfl
    · rw [Nat.add_zero, hat.c0]; rfl
    · rw [c1]; rfl
  have hs := run_storeAt_mid (P := Try.prog) w b (k * 2) 28 #[.int .i64 f, .int .i64 t] ht sizeP (by simp [Value.oneCell'])
  obtain ⟨h1, g1⟩ := h.stored (k * 2) (.int .i64 f)
  obtain ⟨h2, g2⟩ := h1.stored (k * 2 + 1) (.int .i64 t)
  rw [pcs_set L k f t (by omega)] at h2
  exact ⟨b, _, rfl, hs, h2, Ap.trans ⟨g1, Or.inl rfl⟩ ⟨g2, Or.inl rfl⟩⟩
theorem cell_lit {a : Addr} {v : Value} (j : Nat) (h : w.cell? (a.add j) = some v) : w.cell? ⟨a.block, a.off + j, none⟩ = some v := by
  have hs := World.cell?_spot h
  obtain ⟨b, o, s⟩ := a
  cases s with
  | none => rw [Addr.add_lit] at h; exact h
  | some s =>
    by_cases hj : j = 0
    · subst hj; simp [Addr.add] at hs
    · simpa [Addr.add, hj] using h
set_option maxRecDepth 100000 in
theorem samePairs_true (ao : Option Addr) (n c : Nat) (L : List Pr) (bo : Option Addr) (m c' : Nat) (M : List Qr) (w : World) (hY : PSrc w ao n c L) (hZ : QSrc w bo m c' M) (he : L.map toQ = M) (hn : n ≤ 140737488355328) :
    Calls Try.prog 9 #[.slice ao n c, .slice bo m c'] w fun e w' => e = .returned (.bool true) ∧ Below w.heap.size w w' := by
  obtain rfl : n = m := by rw [← hY.len, ← hZ.len, ← he, List.length_map]
  have HL : Hid (L.length = n) := hY.len
  have HE : Hid (∀ k, k < n → M.getD k q0 = toQ (L.getD k p0)) := fun k hk => by
    have hk' : k < L.length := by rw [HL.out]; exact hk
    rw [← he]
    simp [List.getD, hk']
  have HY := hide hY
  have HZ := hide hZ
  clear hY hZ he
  go_enter Try.func9, Try.ntmps9
  go_wp2_with fail
  go_loopw [13] (fun i wr => ∃ k : Nat, k ≤ n ∧ i = .int .i64 k ∧ Hid (Below w.heap.size w wr)) (fun i _ => n - (intOf i).toNat)
  case atStart => exact ⟨0, Nat.zero_le _, rfl, Below.refl _ _⟩
  case round =>
    obtain ⟨k, hk, rfl, HB⟩ := hrel
    by_cases hlt : k < n
    · obtain ⟨ad, rfl, x⟩ := (HY.out.below HB.out).at k hlt
      obtain ⟨bd, rfl, y⟩ := (HZ.out.below HB.out).at k hlt
      have x0 := x.c0
      have x1 := cell_lit 1 x.c1
      have y0 := y.c0
      have y1 := cell_lit 1 y.c1
      rw [HE.out k hlt] at y0 y1
      simp only [toQ] at y0 y1
      obtain ⟨f, hf⟩ : ∃ f, (L.getD k p0).f = f := ⟨_, rfl⟩
      obtain ⟨t, ht⟩ : ∃ t, (L.getD k p0).t = t := ⟨_, rfl⟩
      rw [hf] at x0 y0
      rw [ht] at x1 y1
      clear hf ht x y
      go_wp2_with fail
      go_quiet (fail)
      have HB' := hide (HB.out.trans ((below_drewN wr nq).mono HB.out.size))
      clear HB
      go_wp2_with fail
      go_roundw
      case rel => exact ⟨k + 1, by omega, by go_num, HB'⟩
      case measure => simp [intOf]; omega
    · go_wp2_with fail
      go_ret
      exact ⟨rfl, HB.out⟩
end Go.Proofs.Ytinicdnpkihbkaa
