/- LRChk LSome TNe -/
import Derived.Test.YtalpnhfoaohhhaaGreatTk
import Derived.Test.YtalpnhfoaohhhaaGreatTc16
import Derived.Test.YtalpnhfoaohhhaaGreatTc14
namespace Go.Proofs.YtalpnhfoaohhhaaGreat.K
open Go.RowKit
attribute [local go_sem ↓] ld28_eq st28_eq
attribute [local go_sem] zero_EC cells_EV
def DC (e : En) : Array Value := #[.int .i64 e.rep, .int .i64 e.num]
def ld26 (v : Value) : Sem Value := Instr.loadAt 32 v
theorem ld26_eq (v : Value) : Instr.loadAt 32 v = ld26 v := rfl
attribute [local go_sem ↓] ld26_eq
theorem size26 : (Tryz.prog.info? 32).map (·.size) = some 2 := by kernel_rfl
theorem run_ld26 {w : World} {p : Addr} {e : En} (A : EnAt w p e) : (ld26 (.pointer (some p))).run Tryz.prog w = .ok (.agg (DC e)) w := by
 have hl := run_loadCells_list (P := Tryz.prog) (w := w) p (DC e).toList (fun j v hv => by
  match j, hv with
  | 0, hv => cases hv; rw [add_zero]; exact A.c0
  | 1, hv => cases hv; exact A.c1
  | j + 2, hv => simp [DC] at hv)
 unfold ld26
 simp only [Instr.loadAt, Instr.sureAddr, Sem.run_bind, Sem.run_pure, Result.andThen]
 cases hq : Tryz.prog.info? 32 with
 | none => have := size26; simp [hq] at this
 | some x =>
  have hs : x.size = 2 := by have := size26; simpa [hq] using this
  have hagg : (isAgg 32).run Tryz.prog w = .ok true w := by
   unfold isAgg
   rw [Sem.run_bind, run_underlying Tryz.underlying32 w]
   rfl
  have e4 : (DC e).toList.length = 2 := rfl
  rw [e4] at hl
  simp [loadVar, Sem.run_bind, hagg, sizeOf, typeInfo, hq, hs, hl]

end Go.Proofs.YtalpnhfoaohhhaaGreat.K
namespace Go.Proofs.YtalpnhfoaohhhaaGreat.K
open Go.RowKit

abbrev bA : ByteArray := ⟨#[65]⟩
abbrev bB : ByteArray := ⟨#[66]⟩
def someL : List En := [⟨0, 3, bA, 5⟩, ⟨1, 1, bB, 2⟩, ⟨1, 4, bA, 1⟩]
def GivesE (w w' : World) (e : Ending) (L : List En) : Prop := ∃ ao n c, e = .returned (.slice ao n c) ∧ ESrc w' ao n c L ∧ Below w.heap.size w w' ∧ ∀ ad, ao = some ad → w.heap.size ≤ ad.block
end Go.Proofs.YtalpnhfoaohhhaaGreat.K
namespace Go.Proofs.YtalpnhfoaohhhaaGreat
open Go.RowKit

def nrE (s : K.En) (d : Rn) : Int := or2 (cmpI s.rep d.lo) (cmpI s.num d.hi)
theorem nrE_neg (s : K.En) (d : Rn) : nrE s d < 0 ↔ s.rep < d.lo ∨ (s.rep = d.lo ∧ s.num < d.hi) := by
 unfold nrE or2 cmpI
 by_cases h1 : s.rep < d.lo
 ·simp [h1]
 ·by_cases h2 : d.lo < s.rep
  ·simp [h1, h2]; omega
  ·have h3 : s.rep = d.lo := by omega
   by_cases h4 : s.num < d.hi
   ·simp [h3, h4]
   ·by_cases h5 : d.hi < s.num <;> simp [h3, h4, h5]
set_option maxRecDepth 100000 in
set_option maxHeartbeats 1600000 in
theorem nrE_any (s : K.En) (d : Rn) (w : World) : Calls Tryz.prog 57 #[K.EV s, RV d] w fun e w' => e = .returned (.int .i64 (nrE s d)) ∧ Below w.heap.size w w' := by
 have b1 := below_new w (.cells (K.EC s) 36)
 have x1 := K.box_new w 36 s
 have s1 := World.size_alloc w (.cells (K.EC s) 36)
 obtain ⟨w1, hw1⟩ : ∃ w1, w.alloc (.cells (K.EC s) 36) = w1 := ⟨_, rfl⟩
 obtain ⟨g1, hg1⟩ : ∃ g1, w.heap.size = g1 := ⟨_, rfl⟩
 rw [hw1] at b1 x1 s1
 rw [hg1] at x1 s1
 have b2 := below_new w1 (.cells (RC d) 32)
 have x2 := box_new w1 32 d
 obtain ⟨w2, hw2⟩ : ∃ w2, w1.alloc (.cells (RC d) 32) = w2 := ⟨_, rfl⟩
 rw [hw2] at b2 x2
 rw [s1] at x2
 have HB := hide (b1.trans (b2.mono b1.size))
 have HX : Hid (K.Box w2 g1 36 s ∧ Box w2 (g1 + 1) 32 d) := ⟨x1.below b2, x2⟩
 have HSt : Hid (∀ W, Below w2.heap.size w2 W → W.cell? ⟨g1, 0, none⟩ = some (.int .i64 s.rep) ∧ W.cell? ⟨g1, 1, none⟩ = some (.int .i64 s.num) ∧ W.cell? ⟨g1 + 1, 0, none⟩ = some (.int .i64 d.lo) ∧ W.cell? ⟨g1 + 1, 1, none⟩ = some (.int .i64 d.hi)) := fun W hW => by
  obtain ⟨c0, c2⟩ : W.cell? ⟨g1, 0, none⟩ = some (.int .i64 s.rep) ∧ W.cell? ⟨g1, 1, none⟩ = some (.int .i64 s.num) := by
   have A := (HX.out.1.below hW).at
   exact ⟨A.c0, A.c1⟩
  have hd := (HX.out.2.below hW).at
  exact ⟨c0, c2, hd.c0, hd.c1⟩
 obtain ⟨p, Hp⟩ : ∃ p, Hid (cmpI s.rep d.lo = p) := ⟨_, rfl⟩
 obtain ⟨q, Hq⟩ : ∃ q, Hid (cmpI s.num d.hi = q) := ⟨_, rfl⟩
 have HR : Hid (nrE s d = or2 p q) := by show _ = _; unfold nrE; rw [Hp.out, Hq.out]
 clear b1 b2 x1 x2
 go_enter Tryz.func57, Tryz.ntmps57
 go_wp2_with fail
 clear hw1 hw2 s1 hg1
 refine wp_region_held_drew (S := fun W => W.cell? ⟨g1, 0, none⟩ = some (.int .i64 s.rep) ∧ W.cell? ⟨g1, 1, none⟩ = some (.int .i64 s.num) ∧ W.cell? ⟨g1 + 1, 0, none⟩ = some (.int .i64 d.lo) ∧ W.cell? ⟨g1 + 1, 1, none⟩ = some (.int .i64 d.hi)) (by kernel_rfl) (HSt.out _ (below_drew1 w2)) (fun hHeld => ?_)
 refine wTk 0 ⟨some 5, .fieldAddr 36 (.tmp 2) 0, 0, "order.go:92", #[], none⟩ rfl ?_
 refine wTk 1 ⟨some 6, .fieldAddr 32 (.tmp 5) 0, 0, "order.go:92", #[⟨0, .data⟩], none⟩ rfl ?_
 refine wTk 2 ⟨some 7, .load 3 (.tmp 6), 3, "order.go:92", #[⟨1, .data⟩], none⟩ rfl ?_
 refine wTk 3 ⟨some 8, .fieldAddr 32 (.tmp 3) 0, 0, "order.go:92", #[], none⟩ rfl ?_
 refine wTk 4 ⟨some 9, .load 3 (.tmp 8), 3, "order.go:92", #[⟨3, .data⟩], none⟩ rfl ?_
 refine wTk 6 ⟨some 11, .fieldAddr 36 (.tmp 2) 0, 0, "order.go:92", #[], none⟩ rfl ?_
 refine wTk 7 ⟨some 12, .fieldAddr 32 (.tmp 11) 1, 0, "order.go:92", #[⟨6, .data⟩], none⟩ rfl ?_
 refine wTk 8 ⟨some 13, .load 3 (.tmp 12), 3, "order.go:92", #[⟨7, .data⟩], none⟩ rfl ?_
 refine wTk 9 ⟨some 14, .fieldAddr 32 (.tmp 3) 1, 0, "order.go:92", #[], none⟩ rfl ?_
 refine wTk 10 ⟨some 15, .load 3 (.tmp 14), 3, "order.go:92", #[⟨9, .data⟩], none⟩ rfl ?_
 refine wpAnyH_ready (rs := [5]) (by kernel_rfl) (by simp) (.cons rfl (fun K hK => ?_) .nil)
 go_simp
 go_wp2_with fail
 refine (cmp_any s.rep d.lo _).mono ?_
 rintro e w' ⟨rfl, rfl⟩
 rw [Hp.out]
 refine hK.out _ _ (HSt.out _ (below_drew1 w2)) (fun hHeld => ?_)
 clear hK K
 refine wpAnyH_ready (rs := [11]) (by kernel_rfl) (by simp) (.cons rfl (fun K hK => ?_) .nil)
 go_simp
 go_wp2_with fail
 refine (cmp_any s.num d.hi _).mono ?_
 rintro e w' ⟨rfl, rfl⟩
 rw [Hq.out]
 refine hK.out _ _ (HSt.out _ (below_drew1 w2)) (fun hHeld => ?_)
 clear hK K
 have HB3 := hide ((below_drew1 w2).trans (below_new w2.drew (.cells #[.int .i64 p, .int .i64 q] 3)))
 have HO := hide (or2_new p q w2.drew w2.heap.size rfl)
 refine wpAnyH_ready (rs := [12]) (by kernel_rfl) (by simp) (.cons rfl (fun K hK => ?_) .nil)
 go_simp
 refine hK.out _ _ (HSt.out _ HB3.out) (fun hHeld => ?_)
 clear hK K
 refine wpAnyH_ready (rs := [13]) (by kernel_rfl) (by simp) (.cons rfl (fun K hK => ?_) .nil)
 go_simp
 go_wp2_with fail
 refine HO.out.mono ?_
 rintro e w' ⟨rfl, rfl⟩
 refine hK.out _ _ (HSt.out _ HB3.out) (fun hHeld => ?_)
 clear hK K
 refine wTk 14 ⟨some 4, .assign (.tmp 18), 3, "order.go:92", #[⟨13, .data⟩, ⟨13, .chain⟩, ⟨0, .phase⟩, ⟨1, .phase⟩, ⟨2, .phase⟩, ⟨3, .phase⟩, ⟨4, .phase⟩, ⟨5, .phase⟩, ⟨6, .phase⟩, ⟨7, .phase⟩, ⟨8, .phase⟩, ⟨9, .phase⟩, ⟨10, .phase⟩, ⟨11, .phase⟩, ⟨12, .phase⟩, ⟨13, .phase⟩], none⟩ rfl ?_
 refine wpAnyH_done (by kernel_rfl) ?_ _
 clear hHeld
 go_wp2_with fail
 go_ret
 exact ⟨ret_int HR.out.symm, HB.out.trans (HB3.out.mono HB.out.size)⟩
end Go.Proofs.YtalpnhfoaohhhaaGreat
