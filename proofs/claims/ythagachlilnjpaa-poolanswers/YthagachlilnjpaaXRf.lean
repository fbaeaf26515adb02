/- The reference's calls: Under, Look, Spend, Put, Copy. -/
import Derived.Test.YthagachlilnjpaaXRd
namespace Go.Proofs.Ythagachlilnjpaa
open Go.RowKit Go.Maps
variable {w w' w2 : World} {g r n c : Nat} {ao : Option Addr} {Q : List Mde}
attribute [local go_sem ↓] ldD_eq stD_eq
attribute [local go_sem] DC_size

theorem d0_cells : DC d0 = #[.int .i64 0, .int .i64 0, .string ⟨#[]⟩, .bool false] := rfl
/-- is there a message of that number under way? -/
def und (Q : List Mde) (x : Int) : Bool := if 1 ≤ x ∧ x ≤ (Q.length : Int) then !(Q.getD (x - 1).toNat d0).spent else false
set_option maxRecDepth 100000 in
theorem under_any (P : Rp w r ao n c Q) {x : Int} (hx : i64ok x) : Calls Try.prog 28 #[ptr r, .int .i64 x] w fun e w' => e = .returned (.bool (und Q x)) ∧ w' = w := by
  have x0 := P.c0
  have hl := P.row.len
  by_cases h1 : x < 1
  · have HU : Hid (und Q x = false) := by show _ = _; unfold und; rw [if_neg (by omega)]
    clear P hl hx
    go_enter Try.func28, Try.ntmps28
    go_wp2_with fail
    go_ret
    exact ⟨by rw [HU.out]; rfl, rfl⟩
  · have h1' : 1 ≤ x := by omega
    by_cases h2 : (n : Int) < x
    · have HU : Hid (und Q x = false) := by show _ = _; unfold und; rw [if_neg (by omega)]
      clear P hl hx h1
      go_enter Try.func28, Try.ntmps28
      go_wp2_with fail
      go_ret
      exact ⟨by rw [HU.out]; rfl, rfl⟩
    · have h2' : x ≤ (n : Int) := by omega
      obtain ⟨j, hj⟩ : ∃ j : Nat, x = (j : Int) + 1 := ⟨(x - 1).toNat, by omega⟩
      have hjn : j < n := by omega
      have hsub : wrap64 (x - 1) = (j : Int) := by unfold i64ok at hx; rw [w64 (by omega) (by omega)]; omega
      obtain ⟨b, rfl, D, -⟩ := P.row.at j hjn
      have d3 := D.c3
      rw [Addr.add_lit] at d3
      obtain ⟨sp, hsp⟩ : ∃ sp, (Q.getD j d0).spent = sp := ⟨_, rfl⟩
      rw [hsp] at d3
      have HU : Hid (und Q x = !sp) := by show _ = _; unfold und; rw [if_pos (by omega), show (x - 1).toNat = j by omega, hsp]
      clear P hl hx h1 h2 hj D hsp
      go_enter Try.func28, Try.ntmps28
      go_wp2_with fail
      go_ret
      exact ⟨by rw [HU.out]; rfl, rfl⟩
theorem und_yes {x : Int} (h : und Q x = true) : ∃ j : Nat, x = (j : Int) + 1 ∧ j < Q.length ∧ (Q.getD j d0).spent = false := by
  unfold und at h
  split at h
  · rename_i hx
    exact ⟨(x - 1).toNat, by omega, by omega, by simpa using h⟩
  · cases h
/-- a message and an error are handed back -/
theorem resDE {fn : Func} {p q : Tmp} {e : Mde} {b : Value} (h : fn.results = #[.cell p 46, .tmp q]) {tmps : Array Value} (hp : tmps.getD p undef = .pointer (some ⟨g, 0, none⟩)) (hq : tmps.getD q undef = b) (A : DBox w g e) :
    (results fn tmps).run Try.prog w = .ok (.tuple #[DV e, b]) w := by
  have hl := run_lvD A
  simp only [results, h]
  rw [Array.getD_eq_getD_getElem?] at hp hq
  simp [hp, hq, asAddr, hl]
set_option maxRecDepth 100000 in
theorem rlook_no (P : Rp w r ao n c Q) {x : Int} (hx : i64ok x) (hu : und Q x = false) : Calls Try.prog 11 #[ptr r, .int .i64 x] w fun e w' => e = .returned (.tuple #[DV d0, .int .i64 15]) ∧ Below w.heap.size w w' := by
  obtain ⟨w1, hw1⟩ : ∃ w1, w.alloc (.cells #[.int .i64 0, .int .i64 0, .string ⟨#[]⟩, .bool false] 46) = w1 := ⟨_, rfl⟩
  obtain ⟨g1, hg1⟩ : ∃ g1, w.heap.size = g1 := ⟨_, rfl⟩
  have b1 := below_new w (.cells (DC d0) 46)
  have T1 := DBox_new w d0
  rw [d0_cells, hw1] at b1
  rw [d0_cells, hw1, hg1] at T1
  have HU := hide (under_any (P.below b1) hx)
  rw [hu] at HU
  have hst := run_stD (m' := d0) T1
  have HT := hide (T1.setRow (m' := d0))
  have hst' : (stD (.pointer (some ⟨g1, 0, none⟩)) (.agg #[.int .i64 0, .int .i64 0, .string ⟨#[]⟩, .bool false])).run Try.prog w1 = .ok () (w1.setRow g1 (DC d0)) := hst
  have HB : Hid (Below w.heap.size w (w1.setRow g1 (DC d0))) := below_setRow b1 (by omega)
  clear P hx hu b1 T1 hst
  go_enter Try.func11, Try.ntmps11
  go_wp2_with fail
  refine HU.out.mono ?_
  rintro e w' ⟨rfl, rfl⟩
  go_wp2_with fail
  refine bodyPost_ret (resDE rfl rfl rfl HT.out) rfl ?_
  exact ⟨rfl, HB.out⟩
set_option maxRecDepth 100000 in
theorem rlook_yes (P : Rp w r ao n c Q) {x : Int} (hx : i64ok x) {j : Nat} (hj : x = (j : Int) + 1) (hjn : j < n) (hsp : (Q.getD j d0).spent = false) : Calls Try.prog 11 #[ptr r, .int .i64 x] w fun e w' => e = .returned (.tuple #[DV (Q.getD j d0), .int .i64 0]) ∧ Below w.heap.size w w' := by
  obtain ⟨w1, hw1⟩ : ∃ w1, w.alloc (.cells #[.int .i64 0, .int .i64 0, .string ⟨#[]⟩, .bool false] 46) = w1 := ⟨_, rfl⟩
  obtain ⟨g1, hg1⟩ : ∃ g1, w.heap.size = g1 := ⟨_, rfl⟩
  have b1 := below_new w (.cells (DC d0) 46)
  have T1 := DBox_new w d0
  rw [d0_cells, hw1] at b1
  rw [d0_cells, hw1, hg1] at T1
  have P1 := P.below b1
  have HU := hide (under_any P1 hx)
  have hu : und Q x = true := by unfold und; rw [if_pos (by have := P.row.len; omega), show (x - 1).toNat = j by omega, hsp]; rfl
  rw [hu] at HU
  have x0 := P1.c0
  have hsub : wrap64 (x - 1) = (j : Int) := by unfold i64ok at hx; rw [w64 (by omega) (by omega)]; omega
  obtain ⟨b, rfl, D, -⟩ := P1.row.at j hjn
  have hld := run_laD D
  have hst := run_stD (m' := Q.getD j d0) T1
  have HT := hide (T1.setRow (m' := Q.getD j d0))
  have HB : Hid (Below w.heap.size w (w1.setRow g1 (DC (Q.getD j d0)))) := below_setRow b1 (by omega)
  generalize Q.getD j d0 = e at hld hst HT HB
  clear P hx hu b1 T1 P1 D hj hsp
  go_enter Try.func11, Try.ntmps11
  go_wp2_with fail
  refine HU.out.mono ?_
  rintro e w' ⟨rfl, rfl⟩
  go_wp2_with fail
  refine bodyPost_ret (resDE rfl rfl rfl HT.out) rfl ?_
  exact ⟨rfl, HB.out⟩
set_option maxRecDepth 100000 in
theorem rput_any (P : Rp w r ao n c Q) (f t : Int) (s : ByteArray) (hn : n + 1 ≤ 3518437208883) : Calls Try.prog 9 #[ptr r, .int .i64 f, .int .i64 t, .string s] w fun e w' =>
    e = .returned (.int .i64 ((n + 1 : Nat) : Int)) ∧ ∃ bo c2, Rp w' r bo (n + 1) c2 (Q ++ [⟨f, t, s, false⟩]) ∧ Kr w w' r ao bo := by
  have x0 := P.c0
  have HP := hide P
  have HR := hide P.row
  have HL := hide P.lt
  clear P
  go_enter Try.func9, Try.ntmps9
  go_wp2_with (at_builtin; refine appD (x := ⟨f, t, s, false⟩) HR.out hn rfl (.tmp 13) (.tmp 18) rfl rfl rfl ?_; intro bo c2 w2 R2 A2; have hb : w2.heap[r]? = w.heap[r]? := A2.grown.block r HL.out (fun e => HP.out.ne r e.symm rfl); have y0 : w2.cell? ⟨r, 0, none⟩ = some (.slice ao n c) := (World.cell?_of_block (w := w) (w' := w2) (a := ⟨r, 0, none⟩) hb).trans x0; have f0 : w2.frozen? ⟨r, 0, none⟩ = false := frozen_of_box (hb.trans HP.out.box) 0; have HR2 := hide R2; have HA2 := hide A2; have HB2 := hide hb; clear R2 A2 hb)
  have HF : Hid (Rp (w2.setCell ⟨r, 0, none⟩ (.slice bo (n + 1) c2)) r bo (n + 1) c2 (Q ++ [⟨f, t, s, false⟩]) ∧ Kr w (w2.setCell ⟨r, 0, none⟩ (.slice bo (n + 1) c2)) r ao bo) := by
    have hne : ∀ k, blk bo = some k → k ≠ r := fun k e => by
      rcases HA2.out.lies with h | ⟨j, h, hj⟩
      · rw [h] at e; exact HP.out.ne k e
      · rw [h] at e
        have := Option.some.inj e
        have := HL.out
        omega
    have hA := HA2.out.grown
    refine ⟨⟨?_, HR2.out.keep fun k e => set_other w2 r 0 k _ (hne k e), hne⟩, ⟨hA.os, hA.tape, hA.output, by rw [set_size]; exact hA.size, fun k hk h1 h2 => (set_other w2 r 0 k _ h1).trans (hA.block k hk h2), HA2.out.lies⟩⟩
    have := HB2.out.trans HP.out.box
    simp [World.setCell, this, Array.getElem?_modify]
  have z0 := HF.out.1.c0
  clear y0 f0 x0
  go_wp2_with fail
  go_ret
  exact ⟨rfl, bo, c2, HF.out.1, HF.out.2⟩
end Go.Proofs.Ythagachlilnjpaa
