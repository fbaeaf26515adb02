/- barrowref07.place. -/
import Derived.Test.YtfpmijfcemopoaaGreatTk
import Derived.Test.YtfpmijfcemopoaaGreatKb31
import Derived.Test.YtfpmijfcemopoaaGreatKb38
import Derived.Deep.CutRange
namespace Go.Proofs.YtfpmijfcemopoaaGreat.K
open Go.RowKit
attribute [local go_sem ↓] ld28_eq st28_eq ld26_eq run_eqD
def DBox (w : World) (g : Nat) (y : En) : Prop := w.heap[g]? = some (.cells (DC y) 47 (0, 0))
theorem DBox.lt {w : World} {g : Nat} {y : En} (h : DBox w g y) : g < w.heap.size := (Array.getElem?_eq_some_iff.1 h).1
theorem DBox.below {w w' : World} {g : Nat} {y : En} (h : DBox w g y) (hb : Below w.heap.size w w') : DBox w' g y := (hb.block g h.lt).trans h
theorem DBox_new (w : World) (y : En) : DBox (w.alloc (.cells (DC y) 47)) w.heap.size y := by unfold DBox; rw [heap_alloc_new]
theorem run_ldb {w : World} {g : Nat} {y : En} (h : DBox w g y) : (ld26 (.pointer (some ⟨g, 0, none⟩))).run Tryz.prog w = .ok (.agg (DC y)) w := by
 unfold DBox at h
 have hl := run_loadCells_list (P := Tryz.prog) (w := w) ⟨g, 0, none⟩ (DC y).toList (fun j v hv => by
  match j, hv with
  | 0, hv => cases hv; rw [add_zero]; simp [World.cell?, h, DC]
  | 1, hv => cases hv; rw [Addr.add_lit]; simp [World.cell?, h, DC]
  | j + 2, hv => simp [DC] at hv)
 unfold ld26
 simp only [Instr.loadAt, Instr.sureAddr, Sem.run_bind, Sem.run_pure, Result.andThen]
 cases hq : Tryz.prog.info? 47 with
 | none => have := size26; simp [hq] at this
 | some x =>
  have hs : x.size = 2 := by have := size26; simpa [hq] using this
  have hagg : (isAgg 47).run Tryz.prog w = .ok true w := by
   unfold isAgg
   rw [Sem.run_bind, run_underlying Tryz.underlying47 w]
   rfl
  have e4 : (DC y).toList.length = 2 := rfl
  rw [e4] at hl
  simp [loadVar, Sem.run_bind, hagg, sizeOf, typeInfo, hq, hs, hl]

def PlA (w w' : World) (x : Ending) (B : List En) (y : En) : Prop := ∃ z : Int, x = .returned (.int .i64 z) ∧ Below w.heap.size w w' ∧ ((z = -1 ∧ ∀ e ∈ B, sameDot e y = false) ∨ ∃ k : Nat, k < B.length ∧ z = (k : Int) ∧ sameDot (B.getD k en0) y = true)
theorem asc_at {B : List En} (h : Asc B) {i j : Nat} (hij : i < j) (hj : j < B.length) : ahead (B.getD i en0) (B.getD j en0) = true := by
 have h1 := List.pairwise_iff_getElem.1 h i j (by omega) hj hij
 simpa [List.getD, List.getElem?_eq_getElem hj, List.getElem?_eq_getElem (show i < B.length by omega)] using h1
theorem not_ahead_same {x y : En} (h : ahead x y = false) (hs : sameDot x y = false) : ahead y x = true := by
 simp [ahead, sameDot] at *; omega
set_option maxRecDepth 100000 in
set_option maxHeartbeats 3200000 in
theorem place_any (bo : Option Addr) (m cap : Nat) (B : List En) (y : En) (w : World) (hS : ESrc w bo m cap B) (hA : Asc B) :
  Calls Tryz.prog 123 #[.slice bo m cap, .agg (DC y)] w fun x w' => PlA w w' x B y := by
 have b1 := below_new w (.cells (DC y) 47)
 have HX := hide (DBox_new w y)
 have HS := hide (hS.below b1)
 have HB := hide b1
 have hmb := hS.2.2.2.2
 have HL : Hid (B.length = m) := hS.1
 have HA := hide hA
 clear hS hA b1
 obtain ⟨wk, hwk⟩ : ∃ wk, w.alloc (.cells (DC y) 47) = wk := ⟨_, rfl⟩
 obtain ⟨G, hG⟩ : ∃ G, w.heap.size = G := ⟨_, rfl⟩
 rw [hwk] at HX HS HB
 rw [hG] at HX
 go_enter Tryz.func123, Tryz.ntmps123
 go_wp2_with fail
 clear hwk hG
 go_loopw [5, 6] (fun i j wr => ∃ lo hi : Nat, lo ≤ hi ∧ hi ≤ m ∧ i = .int .i64 (lo : Int) ∧ j = .int .i64 (hi : Int) ∧ Hid (Below wk.heap.size wk wr ∧ (∀ t, t < lo → ahead (B.getD t en0) y = true) ∧ (∀ t, hi ≤ t → t < m → ahead (B.getD t en0) y = false))) (fun i j _ => (intOf j).toNat - (intOf i).toNat)
 case atStart => exact ⟨0, m, Nat.zero_le _, Nat.le_refl _, rfl, rfl, Below.refl _ _, fun t h => absurd h (by omega), fun t h1 h2 => absurd h2 (by omega)⟩
 case round =>
  obtain ⟨lo, hi, hlh, hhm, rfl, rfl, HI⟩ := hrel
  rename World => wr
  by_cases hlt : lo < hi
  ·have hlti : (lo : Int) < (hi : Int) := by omega
   obtain ⟨c, Hc⟩ : ∃ c : Nat, Hid (c = (lo + hi) / 2) := ⟨_, rfl⟩
   have hcb : lo ≤ c ∧ c < hi := by have := Hc.out; omega
   have hdv : ((lo : Int) + (hi : Int)).tdiv 2 = (c : Int) := by
    have := Hc.out
    rw [Int.tdiv_eq_ediv_of_nonneg (by omega)]
    omega
   have hcm : (c : Int) < (m : Int) := by omega
   obtain ⟨ad, hao, A0⟩ := (HS.out.below HI.out.1).at c (by omega)
   subst hao
   obtain ⟨e, He⟩ : ∃ e, Hid (B.getD c en0 = e) := ⟨_, rfl⟩
   rw [He.out] at A0
   have HA0 := hide A0
   have HXr := hide (HX.out.below HI.out.1)
   have HSt : Hid (∀ W, Below wr.heap.size wr W → (ld26 (.pointer (some (ad.add (c * 4))))).run Tryz.prog W = .ok (.agg (DC e)) W ∧ (ld26 (.pointer (some ⟨G, 0, none⟩))).run Tryz.prog W = .ok (.agg (DC y)) W) := fun W hW => ⟨run_ld26 (HA0.out.on hW), run_ldb (HXr.out.below hW)⟩
   have Hb : Hid (lo ≤ c ∧ c < hi ∧ hi ≤ m) := ⟨hcb.1, hcb.2, hhm⟩
   clear A0
   go_upto_region 4 with fail
   clear hdv
   refine wp_region_held_drew (S := fun W => (ld26 (.pointer (some (ad.add (c * 4))))).run Tryz.prog W = .ok (.agg (DC e)) W ∧ (ld26 (.pointer (some ⟨G, 0, none⟩))).run Tryz.prog W = .ok (.agg (DC y)) W) (by kernel_rfl) (HSt.out _ (below_drew1 wr)) (fun hHeld => ?_)
   refine wTk 0 ⟨some 17, .move (.tmp 0), 23, "ref.go:202", #[], none⟩ rfl ?_
   refine wTk 1 ⟨some 18, .move (.tmp 7), 3, "ref.go:202", #[], none⟩ rfl ?_
   refine wTk 2 ⟨some 19, .indexAddr 23 (.tmp 17) (.tmp 18), 0, "ref.go:202", #[⟨0, .data⟩, ⟨1, .data⟩], none⟩ rfl ?_
   refine wTk 3 ⟨some 20, .fieldAddr 49 (.tmp 19) 0, 0, "ref.go:202", #[⟨2, .data⟩], none⟩ rfl ?_
   refine wTk 4 ⟨some 21, .load 47 (.tmp 20), 47, "ref.go:202", #[⟨3, .data⟩], none⟩ rfl ?_
   refine wTk 5 ⟨some 22, .load 47 (.tmp 3), 47, "ref.go:202", #[], none⟩ rfl ?_
   refine wpAnyH_ready (rs := [6]) (by kernel_rfl) (by simp) (.cons rfl (fun K hK => ?_) .nil)
   go_simp
   go_wp2_with fail
   refine (refAhead_any e y _).mono ?_
   rintro x w3 ⟨rfl, b3⟩
   have HB3 : Hid (Below wr.heap.size wr w3) := (below_drew1 wr).trans b3
   refine hK.out _ _ (HSt.out _ HB3.out) (fun hHeld => ?_)
   clear hK K
   clear b3
   refine wpAnyH_done (by kernel_rfl) ?_ _
   clear hHeld
   have HW3 := hide (HI.out.1.trans (HB3.out.mono HI.out.1.size))
   cases ha : ahead e y with
   | true =>
    have HN : Hid (∀ t, t < c + 1 → ahead (B.getD t en0) y = true) := fun t ht => by
     by_cases e1 : t = c
     ·rw [e1, He.out]; exact ha
     ·have h1 := asc_at HA.out (show t < c by omega) (by rw [HL.out]; have := Hb.out; omega)
      rw [He.out] at h1
      exact ahead_trans h1 ha
    clear ha
    go_wp2_with fail
    go_roundw
    case rel => exact ⟨c + 1, hi, by have := Hb.out; omega, hhm, by simp, rfl, HW3.out, HN.out, HI.out.2.2⟩
    case measure => simp [intOf]; have := Hb.out; omega
   | false =>
    have HN : Hid (∀ t, c ≤ t → t < m → ahead (B.getD t en0) y = false) := fun t ht htm => by
     by_cases e1 : t = c
     ·rw [e1, He.out]; exact ha
     ·have h1 := asc_at HA.out (show c < t by omega) (by rw [HL.out]; exact htm)
      rw [He.out] at h1
      cases h2 : ahead (B.getD t en0) y
      ·rfl
      ·rw [ahead_trans h1 h2] at ha; cases ha
    clear ha
    go_wp2_with fail
    go_roundw
    case rel => exact ⟨lo, c, Hb.out.1, by have := Hb.out; omega, rfl, rfl, HW3.out, HI.out.2.1, HN.out⟩
    case measure => simp [intOf]; have := Hb.out; omega
  ·have hlti : ¬ (lo : Int) < (hi : Int) := by omega
   obtain rfl : lo = hi := by omega
   by_cases hlm : lo < m
   ·have hlmi : (lo : Int) < (m : Int) := by omega
    obtain ⟨ad, hao, A0⟩ := (HS.out.below HI.out.1).at lo hlm
    subst hao
    obtain ⟨e, He⟩ : ∃ e, Hid (B.getD lo en0 = e) := ⟨_, rfl⟩
    rw [He.out] at A0
    have HA0 := hide A0
    have HXr := hide (HX.out.below HI.out.1)
    have HSt : Hid (∀ W, Below wr.heap.size wr W → (ld26 (.pointer (some (ad.add (lo * 4))))).run Tryz.prog W = .ok (.agg (DC e)) W ∧ (ld26 (.pointer (some ⟨G, 0, none⟩))).run Tryz.prog W = .ok (.agg (DC y)) W) := fun W hW => ⟨run_ld26 (HA0.out.on hW), run_ldb (HXr.out.below hW)⟩
    have Hlm := hide hlm
    clear A0
    go_upto_region 7 with fail
    refine wp_region_held_drew (S := fun W => (ld26 (.pointer (some (ad.add (lo * 4))))).run Tryz.prog W = .ok (.agg (DC e)) W ∧ (ld26 (.pointer (some ⟨G, 0, none⟩))).run Tryz.prog W = .ok (.agg (DC y)) W) (by kernel_rfl) (HSt.out _ (below_drew1 wr)) (fun hHeld => ?_)
    refine wTk 0 ⟨some 27, .move (.tmp 5), 3, "ref.go:208", #[], none⟩ rfl ?_
    refine wTk 1 ⟨some 28, .move (.tmp 0), 23, "ref.go:208", #[], none⟩ rfl ?_
    refine wTk 2 ⟨some 29, .call ⟨.builtin .len, #[.tmp 28], #[23]⟩, 3, "ref.go:208", #[⟨1, .data⟩], none⟩ rfl ?_
    refine wTk 3 ⟨some 30, .binOp .lss 3 (.tmp 27) (.tmp 29) 3, 4, "ref.go:208", #[⟨0, .data⟩, ⟨2, .data⟩], none⟩ rfl ?_
    refine wTk 4 ⟨some 31, .move (.tmp 30), 4, "ref.go:208", #[⟨3, .data⟩], none⟩ rfl ?_
    refine wTk 5 ⟨some 32, .move (.tmp 0), 23, "ref.go:208", #[⟨4, .guard⟩], some (4, true)⟩ rfl ?_
    refine wTk 6 ⟨some 33, .move (.tmp 5), 3, "ref.go:208", #[⟨4, .guard⟩], some (4, true)⟩ rfl ?_
    refine wTk 7 ⟨some 34, .indexAddr 23 (.tmp 32) (.tmp 33), 0, "ref.go:208", #[⟨5, .data⟩, ⟨6, .data⟩, ⟨4, .guard⟩], some (4, true)⟩ rfl ?_
    refine wTk 8 ⟨some 35, .fieldAddr 49 (.tmp 34) 0, 0, "ref.go:208", #[⟨7, .data⟩, ⟨4, .guard⟩], some (4, true)⟩ rfl ?_
    refine wTk 9 ⟨some 36, .load 47 (.tmp 35), 47, "ref.go:208", #[⟨8, .data⟩, ⟨4, .guard⟩], some (4, true)⟩ rfl ?_
    refine wTk 10 ⟨some 37, .load 47 (.tmp 3), 47, "ref.go:208", #[⟨4, .guard⟩], some (4, true)⟩ rfl ?_
    refine wTk 11 ⟨some 38, .binOp .eql 47 (.tmp 36) (.tmp 37) 47, 4, "ref.go:208", #[⟨9, .data⟩, ⟨10, .data⟩, ⟨4, .guard⟩], some (4, true)⟩ rfl ?_
    refine wTk 12 ⟨some 39, .pick (.tmp 31) (.tmp 38) (.const (.bool false)), 4, "ref.go:208", #[⟨4, .data⟩, ⟨11, .data⟩], none⟩ rfl ?_
    refine wpAnyH_done (by kernel_rfl) ?_ _
    clear hHeld
    have HBr := hide (HB.out.trans ((HI.out.1.trans ((below_drew1 wr).mono HI.out.1.size)).mono HB.out.size))
    cases hs : sameDot e y with
    | true =>
     have HE : Hid (PlA w wr.drew (.returned (.int .i64 (lo : Int))) B y) := ⟨_, rfl, HBr.out, .inr ⟨lo, by rw [HL.out]; exact Hlm.out, rfl, by rw [He.out]; exact hs⟩⟩
     clear hs
     go_wp2_with fail
     go_ret
     exact HE.out
    | false =>
     have HE : Hid (PlA w wr.drew (.returned (.int .i64 (-1))) B y) := by
      refine ⟨_, rfl, HBr.out, .inl ⟨rfl, fun x hx => ?_⟩⟩
      obtain ⟨t, ht, rfl⟩ := List.getElem_of_mem hx
      have et : B.getD t en0 = B[t] := by simp [List.getD, List.getElem?_eq_getElem ht]
      rw [← et]
      by_cases h1 : t < lo
      ·exact ahead_same (HI.out.2.1 t h1)
      ·by_cases h2 : t = lo
       ·rw [h2, He.out]; exact hs
       ·have h3 := asc_at HA.out (show lo < t by omega) ht
        rw [He.out] at h3
        have h4 := HI.out.2.2 lo (Nat.le_refl _) Hlm.out
        rw [He.out] at h4
        have h5 := ahead_trans (not_ahead_same h4 hs) h3
        rw [same_symm]
        exact ahead_same h5
     clear hs
     go_wp2_with fail
     go_ret
     exact HE.out
   ·have hlmi : ¬ (lo : Int) < (m : Int) := by omega
    have HE : Hid (PlA w wr.drew (.returned (.int .i64 (-1))) B y) := by
     refine ⟨_, rfl, HB.out.trans ((HI.out.1.trans ((below_drew1 wr).mono HI.out.1.size)).mono HB.out.size), .inl ⟨rfl, fun x hx => ?_⟩⟩
     obtain ⟨t, ht, rfl⟩ := List.getElem_of_mem hx
     have et : B.getD t en0 = B[t] := by simp [List.getD, List.getElem?_eq_getElem ht]
     rw [← et]
     exact ahead_same (HI.out.2.1 t (by have := HL.out; omega))
    go_upto_region 7 with fail
    refine wp_region_held_drew (S := fun _ => True) (by kernel_rfl) (trivial) (fun hHeld => ?_)
    refine wTk 0 ⟨some 27, .move (.tmp 5), 3, "ref.go:208", #[], none⟩ rfl ?_
    refine wTk 1 ⟨some 28, .move (.tmp 0), 23, "ref.go:208", #[], none⟩ rfl ?_
    refine wTk 2 ⟨some 29, .call ⟨.builtin .len, #[.tmp 28], #[23]⟩, 3, "ref.go:208", #[⟨1, .data⟩], none⟩ rfl ?_
    refine wTk 3 ⟨some 30, .binOp .lss 3 (.tmp 27) (.tmp 29) 3, 4, "ref.go:208", #[⟨0, .data⟩, ⟨2, .data⟩], none⟩ rfl ?_
    refine wTk 4 ⟨some 31, .move (.tmp 30), 4, "ref.go:208", #[⟨3, .data⟩], none⟩ rfl ?_
    refine wSk 5 ⟨some 32, .move (.tmp 0), 23, "ref.go:208", #[⟨4, .guard⟩], some (4, true)⟩ rfl ?_
    refine wSk 6 ⟨some 33, .move (.tmp 5), 3, "ref.go:208", #[⟨4, .guard⟩], some (4, true)⟩ rfl ?_
    refine wSk 7 ⟨some 34, .indexAddr 23 (.tmp 32) (.tmp 33), 0, "ref.go:208", #[⟨5, .data⟩, ⟨6, .data⟩, ⟨4, .guard⟩], some (4, true)⟩ rfl ?_
    refine wSk 8 ⟨some 35, .fieldAddr 49 (.tmp 34) 0, 0, "ref.go:208", #[⟨7, .data⟩, ⟨4, .guard⟩], some (4, true)⟩ rfl ?_
    refine wSk 9 ⟨some 36, .load 47 (.tmp 35), 47, "ref.go:208", #[⟨8, .data⟩, ⟨4, .guard⟩], some (4, true)⟩ rfl ?_
    refine wSk 10 ⟨some 37, .load 47 (.tmp 3), 47, "ref.go:208", #[⟨4, .guard⟩], some (4, true)⟩ rfl ?_
    refine wSk 11 ⟨some 38, .binOp .eql 47 (.tmp 36) (.tmp 37) 47, 4, "ref.go:208", #[⟨9, .data⟩, ⟨10, .data⟩, ⟨4, .guard⟩], some (4, true)⟩ rfl ?_
    refine wTk 12 ⟨some 39, .pick (.tmp 31) (.tmp 38) (.const (.bool false)), 4, "ref.go:208", #[⟨4, .data⟩, ⟨11, .data⟩], none⟩ rfl ?_
    refine wpAnyH_done (by kernel_rfl) ?_ _
    clear hHeld
    go_wp2_with fail
    go_ret
    exact HE.out
end Go.Proofs.YtfpmijfcemopoaaGreat.K
