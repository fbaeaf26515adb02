/- ORh -/
import Derived.Test.YtehcehhfdhiomaaGreatTk
import Derived.Test.YtehcehhfdhiomaaGreatTf24
import Derived.Deep.CutRange
namespace Go.Proofs.YtehcehhfdhiomaaGreat
open Go.RowKit
attribute [local go_sem ↓] ldP_eq stP_eq ldD_eq stD_eq ldS_eq stS_eq
attribute [local go_sem] cells_PV PC_size zero_SC cells_SV SC_size
variable {w w' w2 W W' : World} {g : Nat}

set_option maxRecDepth 100000 in
theorem refIsDot_any (d : Rn) (w : World) : Calls Tryz.prog 42 #[RV d] w fun e w' => e = .returned (.bool (okD d)) ∧ Below w.heap.size w w' := by
 have HB := hide (below_new w (.cells (RC d) 46))
 have A0 := (box_new w 46 d).at
 have c0 := A0.c0
 have c1 : (w.alloc (.cells (RC d) 46)).cell? ⟨w.heap.size, 1, none⟩ = some (.int .i64 d.hi) := A0.c1
 clear A0
 obtain ⟨lo, hi⟩ := d
 dsimp only at c0 c1 ⊢
 by_cases h1 : 0 ≤ lo
 ·by_cases h2 : lo < 16
  ·by_cases h3 : 1 ≤ hi
   ·have HF : Hid (okD ⟨lo, hi⟩ = decide (hi ≤ 1000000000)) := by show _ = _; unfold okD V.isR; simp [h1, h2, h3]
    go_enter Tryz.func42, Tryz.ntmps42
    go_wp2_with fail
    go_ret
    exact ⟨ret_bool HF.out.symm, HB.out⟩
   ·have HF : Hid (okD ⟨lo, hi⟩ = false) := by show _ = _; unfold okD V.isR; simp [h3]
    go_enter Tryz.func42, Tryz.ntmps42
    go_wp2_with fail
    go_ret
    exact ⟨ret_bool HF.out.symm, HB.out⟩
  ·have HF : Hid (okD ⟨lo, hi⟩ = false) := by show _ = _; unfold okD V.isR; simp [h2]
   go_enter Tryz.func42, Tryz.ntmps42
   go_wp2_with fail
   go_ret
   exact ⟨ret_bool HF.out.symm, HB.out⟩
 ·have HF : Hid (okD ⟨lo, hi⟩ = false) := by show _ = _; unfold okD V.isR; simp [h1]
  go_enter Tryz.func42, Tryz.ntmps42
  go_wp2_with fail
  go_ret
  exact ⟨ret_bool HF.out.symm, HB.out⟩
theorem vsrc_at1 {ao : Option Addr} {m c : Nat} {Z : List Int} (h : V.Src W ao m c Z) (k : Nat) (hk : k < m) : ∃ ad, ao = some ad ∧ W.cell? (ad.add k) = some (.int .i64 (Z.getD k 0)) := by
 cases ao with
 | none => have := (h.2.1 rfl).1; omega
 | some ad => exact ⟨ad, rfl, h.2.2 ad rfl k hk⟩
theorem inSp_iff (d : Rn) (c : Sn) : inSp d c = true ↔ c.rep = d.lo ∧ c.lo ≤ d.hi ∧ d.hi ≤ c.hi := by unfold inSp; simp
set_option maxRecDepth 100000 in
set_option maxHeartbeats 3200000 in
theorem refHas_any (p : Pv) (d : Rn) (w : World) (hS : PSrc w p) : Calls Tryz.prog 21 #[PV p, RV d] w fun e w' => GivB w w' e (dotIn p.P d) := by
 have b1 := below_new w (.cells (PC p) 26)
 have x1 := pbox_new w p
 have s1 := World.size_alloc w (.cells (PC p) 26)
 obtain ⟨w1, hw1⟩ : ∃ w1, w.alloc (.cells (PC p) 26) = w1 := ⟨_, rfl⟩
 obtain ⟨g1, hg1⟩ : ∃ g1, w.heap.size = g1 := ⟨_, rfl⟩
 rw [hw1] at b1 x1 s1
 rw [hg1] at x1 s1
 have b2 := below_new w1 (.cells (RC d) 46)
 have x2 := box_new w1 46 d
 obtain ⟨w2, hw2⟩ : ∃ w2, w1.alloc (.cells (RC d) 46) = w2 := ⟨_, rfl⟩
 rw [hw2] at b2 x2
 rw [s1] at x2
 obtain ⟨g2, hg2⟩ : ∃ g2, g1 + 1 = g2 := ⟨_, rfl⟩
 rw [hg2] at x2
 have b12 := b1.trans (b2.mono b1.size)
 have HX : Hid (PBox w2 g1 p ∧ Box w2 g2 46 d ∧ PSrc w2 p ∧ Below w.heap.size w w2) := ⟨x1.below b2, x2, hS.below b12, b12⟩
 have ld := run_ldD x2.at
 clear b1 b2 b12 x1 x2 hS
 go_enter Tryz.func21, Tryz.ntmps21
 go_wp2_with fail
 clear hw1 hw2 s1 hg1 ld
 refine (refIsDot_any d _).mono ?_
 rintro e w3 ⟨rfl, b3⟩
 have HX3 : Hid (PBox w3 g1 p ∧ Box w3 g2 46 d ∧ PSrc w3 p ∧ Below w.heap.size w w3) := ⟨HX.out.1.below b3, HX.out.2.1.below b3, HX.out.2.2.1.below b3, HX.out.2.2.2.trans (b3.mono HX.out.2.2.2.size)⟩
 obtain ⟨bb, hbb⟩ : ∃ bb, okD d = bb := ⟨_, rfl⟩
 rw [hbb]
 clear b3 HX hg2
 cases bb with
 | false =>
  have HF : Hid (GivB w w3 (.returned (.bool false)) (dotIn p.P d)) := ⟨false, rfl, BIf.no (fun h => by
   rw [dotIn_iff] at h
   have : okD d = true := by unfold okD V.isR; simp [h.1, h.2.1, h.2.2.1, h.2.2.2.1]
   rw [hbb] at this
   cases this), HX3.out.2.2.2⟩
  clear hbb
  go_wp2_with fail
  go_ret
  exact HF.out
 | true =>
  obtain ⟨y, num, rfl, hy, hn1, hn2⟩ : ∃ (y : Nat) (num : Int), d = ⟨(y : Int), num⟩ ∧ y < 16 ∧ 1 ≤ num ∧ num ≤ 1000000000 := by
   have h := hbb
   unfold okD at h
   simp only [Bool.and_eq_true, V.isR, decide_eq_true_eq] at h
   obtain ⟨lo, hi⟩ := d
   exact ⟨lo.toNat, hi, by simp only at h; congr 1; omega, by simp only at h; omega, h.2.1, h.2.2⟩
  clear hbb
  have HIff : Hid (dotIn p.P ⟨(y : Int), num⟩ ↔ (num ≤ p.P.vec.getD y 0 ∨ ∃ c, c ∈ p.P.cloud ∧ inSp ⟨(y : Int), num⟩ c = true)) := by
   show _ ↔ _
   rw [dotIn_iff]
   simp only [Int.toNat_natCast, inSp_iff]
   constructor
   ·rintro ⟨-, -, -, -, h⟩; exact h
   ·intro h; exact ⟨by omega, by omega, hn1, hn2, h⟩
  have HSt : Hid (∀ W, Below w3.heap.size w3 W → W.cell? ⟨g1, 0, none⟩ = some (.slice p.vo p.vn p.vc) ∧ W.cell? ⟨g2, 0, none⟩ = some (.int .i64 (y : Int)) ∧ W.cell? ⟨g2, 1, none⟩ = some (.int .i64 num)) := fun W hW =>
   ⟨(HX3.out.1.below hW).nums.1, (HX3.out.2.1.below hW).at.c0, (HX3.out.2.1.below hW).at.c1⟩
  have hvl : p.P.vec.length = p.vn := HX3.out.2.2.1.vec.1
  have HLo : Hid (∀ W, Below w3.heap.size w3 W → ¬ num ≤ p.P.vec.getD y 0 → True) := fun _ _ _ => trivial
  have hcb : p.cn ≤ 5864062014805 := HX3.out.2.2.1.cloud.big
  by_cases hyv : y < p.vn
  ·have hyi : (y : Int) < (p.vn : Int) := by omega
   obtain ⟨ad, hvo, q0⟩ := vsrc_at1 HX3.out.2.2.1.vec y hyv
   obtain ⟨tv, htv⟩ : ∃ tv, p.P.vec.getD y 0 = tv := ⟨_, rfl⟩
   rw [htv] at q0
   have HSv : Hid (∀ W, Below w3.heap.size w3 W → W.cell? ⟨g1, 0, none⟩ = some (.slice (some ad) p.vn p.vc) ∧ W.cell? ⟨g2, 0, none⟩ = some (.int .i64 (y : Int)) ∧ W.cell? ⟨g2, 1, none⟩ = some (.int .i64 num) ∧ W.cell? (ad.add y) = some (.int .i64 tv)) := fun W hW => ⟨by rw [← hvo]; exact (HSt.out W hW).1, (HSt.out W hW).2.1, (HSt.out W hW).2.2, (hW.cell (World.block_lt_of_cell? _ _ q0)).trans q0⟩
   have Htv := hide htv
   clear q0 htv hvo
   go_upto_region 3 with fail
   refine wp_region_held_drew (S := fun W => W.cell? ⟨g1, 0, none⟩ = some (.slice (some ad) p.vn p.vc) ∧ W.cell? ⟨g2, 0, none⟩ = some (.int .i64 (y : Int)) ∧ W.cell? ⟨g2, 1, none⟩ = some (.int .i64 num) ∧ W.cell? (ad.add y) = some (.int .i64 tv)) (by kernel_rfl) (HSv.out _ (below_drew1 w3)) (fun hHeld => ?_)
   refine wTk 0 ⟨some 10, .fieldAddr 46 (.tmp 3) 0, 0, "ref.go:212", #[], none⟩ rfl ?_
   refine wTk 1 ⟨some 11, .load 3 (.tmp 10), 3, "ref.go:212", #[⟨0, .data⟩], none⟩ rfl ?_
   refine wTk 2 ⟨some 12, .fieldAddr 26 (.tmp 2) 0, 0, "ref.go:212", #[], none⟩ rfl ?_
   refine wTk 3 ⟨some 13, .load 23 (.tmp 12), 23, "ref.go:212", #[⟨2, .data⟩], none⟩ rfl ?_
   refine wTk 4 ⟨some 14, .call ⟨.builtin .len, #[.tmp 13], #[23]⟩, 3, "ref.go:212", #[⟨3, .data⟩], none⟩ rfl ?_
   refine wTk 5 ⟨some 15, .binOp .lss 3 (.tmp 11) (.tmp 14) 3, 4, "ref.go:212", #[⟨1, .data⟩, ⟨4, .data⟩], none⟩ rfl ?_
   refine wTk 6 ⟨some 16, .move (.tmp 15), 4, "ref.go:212", #[⟨5, .data⟩], none⟩ rfl ?_
   refine wTk 7 ⟨some 17, .fieldAddr 46 (.tmp 3) 1, 0, "ref.go:212", #[⟨6, .guard⟩], some (6, true)⟩ rfl ?_
   refine wTk 8 ⟨some 18, .load 3 (.tmp 17), 3, "ref.go:212", #[⟨7, .data⟩, ⟨6, .guard⟩], some (6, true)⟩ rfl ?_
   refine wTk 9 ⟨some 19, .fieldAddr 26 (.tmp 2) 0, 0, "ref.go:212", #[⟨6, .guard⟩], some (6, true)⟩ rfl ?_
   refine wTk 10 ⟨some 20, .load 23 (.tmp 19), 23, "ref.go:212", #[⟨9, .data⟩, ⟨6, .guard⟩], some (6, true)⟩ rfl ?_
   refine wTk 11 ⟨some 21, .fieldAddr 46 (.tmp 3) 0, 0, "ref.go:212", #[⟨6, .guard⟩], some (6, true)⟩ rfl ?_
   refine wTk 12 ⟨some 22, .load 3 (.tmp 21), 3, "ref.go:212", #[⟨11, .data⟩, ⟨6, .guard⟩], some (6, true)⟩ rfl ?_
   refine wTk 13 ⟨some 23, .indexAddr 23 (.tmp 20) (.tmp 22), 0, "ref.go:212", #[⟨10, .data⟩, ⟨12, .data⟩, ⟨6, .guard⟩], some (6, true)⟩ rfl ?_
   refine wTk 14 ⟨some 24, .load 3 (.tmp 23), 3, "ref.go:212", #[⟨13, .data⟩, ⟨6, .guard⟩], some (6, true)⟩ rfl ?_
   refine wTk 15 ⟨some 25, .binOp .leq 3 (.tmp 18) (.tmp 24) 3, 4, "ref.go:212", #[⟨8, .data⟩, ⟨14, .data⟩, ⟨6, .guard⟩], some (6, true)⟩ rfl ?_
   refine wTk 16 ⟨some 26, .pick (.tmp 16) (.tmp 25) (.const (.bool false)), 4, "ref.go:212", #[⟨6, .data⟩, ⟨15, .data⟩], none⟩ rfl ?_
   refine wpAnyH_done (by kernel_rfl) ?_ _
   clear hHeld
   by_cases hnt : num ≤ tv
   ·have HF : Hid (GivB w w3.drew (.returned (.bool true)) (dotIn p.P ⟨(y : Int), num⟩)) := ⟨true, rfl, BIf.yes (HIff.out.2 (.inl (by rw [Htv.out]; exact hnt))), HX3.out.2.2.2.trans ((below_drew1 w3).mono HX3.out.2.2.2.size)⟩
    go_wp2_with fail
    go_ret
    exact HF.out
   ·have Hnv : Hid (¬ num ≤ p.P.vec.getD y 0) := by rw [Htv.out]; exact hnt
    have b4 : Below w3.heap.size w3 w3.drew := below_drew1 w3
    obtain ⟨w4, hw4⟩ : ∃ w4, w3.drew = w4 := ⟨_, rfl⟩
    rw [hw4] at b4 ⊢
    clear hw4 HSv
    clear hvl
    have HX4 : Hid (PBox w4 g1 p ∧ Box w4 g2 46 ⟨(y : Int), num⟩ ∧ PSrc w4 p ∧ Below w.heap.size w w4) := ⟨HX3.out.1.below b4, HX3.out.2.1.below b4, HX3.out.2.2.1.below b4, HX3.out.2.2.2.trans (b4.mono HX3.out.2.2.2.size)⟩
    clear b4 HX3 HSt HLo
    go_wp2_with fail
    go_loopw [5] (fun i wr => ∃ k : Nat, k ≤ p.cn ∧ i = .int .i64 (k : Int) ∧ Hid (Below w4.heap.size w4 wr ∧ ∀ j, j < k → inSp ⟨(y : Int), num⟩ (p.P.cloud.getD j sn0) = false)) (fun i _ => p.cn - (intOf i).toNat)
    case atStart => exact ⟨0, Nat.zero_le _, rfl, Below.refl _ _, fun j hj => by omega⟩
    case round =>
     obtain ⟨k, hk, rfl, HI⟩ := hrel
     rename World => wr
     have d1 := (HX4.out.1.below HI.out.1).nums.2
     by_cases hlt : k < p.cn
     ·have hlti : (k : Int) < (p.cn : Int) := by omega
      obtain ⟨ad, hco, A5⟩ := (HX4.out.2.2.1.below HI.out.1).cloud.at k hlt
      rw [hco] at d1
      obtain ⟨s, hs⟩ : ∃ s, p.P.cloud.getD k sn0 = s := ⟨_, rfl⟩
      rw [hs] at A5
      have l5 := run_ldS A5
      obtain ⟨g6, hg6⟩ : ∃ g6, wr.heap.size = g6 := ⟨_, rfl⟩
      obtain ⟨w6, hst6, X6, b6, -⟩ := madeS wr s g6 hg6
      have X2 := (HX4.out.2.1.below HI.out.1).below b6
      have e0 := X2.at.c0
      have e1 : w6.cell? ⟨g2, 1, none⟩ = some (.int .i64 num) := X2.at.c1
      dsimp only at e0
      obtain ⟨f0, f1, f2⟩ := X6.at
      have HB6 := hide (HI.out.1.trans (b6.mono HI.out.1.size))
      have Hs := hide hs
      have HMem : Hid (s ∈ p.P.cloud) := by
       rw [← hs, List.getD_eq_getElem?_getD, List.getElem?_eq_getElem (by rw [HX4.out.2.2.1.cloud.len]; exact hlt)]
       exact List.getElem_mem _
      have HBw := hide (HX4.out.2.2.2.trans (HB6.out.mono HX4.out.2.2.2.size))
      have HYes : Hid (inSp ⟨(y : Int), num⟩ s = true → GivB w w6 (.returned (.bool true)) (dotIn p.P ⟨(y : Int), num⟩)) := fun h => ⟨true, rfl, BIf.yes (HIff.out.2 (.inr ⟨s, HMem.out, h⟩)), HBw.out⟩
      have HNo : Hid (inSp ⟨(y : Int), num⟩ s = false → ∀ j, j < k + 1 → inSp ⟨(y : Int), num⟩ (p.P.cloud.getD j sn0) = false) := fun h j hj => by
       by_cases e : j = k
       ·rw [e, Hs.out]; exact h
       ·exact HI.out.2 j (by omega)
      obtain ⟨rp, lo, hi⟩ := s
      dsimp only at f0 f1 f2
      have Hlt := hide hlt
      clear A5 X6 b6 X2 hs hlt hk hco
      by_cases h1 : rp = (y : Int)
      ·have h1b : (rp == (y : Int)) = true := by simpa using h1
       by_cases h2 : lo ≤ num
       ·by_cases h3 : num ≤ hi
        ·have HE := hide (HYes.out (by rw [inSp_iff]; exact ⟨h1, h2, h3⟩))
         clear h1
         go_wp2_with fail
         clear hst6 hg6
         go_ret
         exact HE.out
        ·have HE := hide (HNo.out (by rw [← Bool.not_eq_true, inSp_iff]; rintro ⟨-, -, h⟩; exact h3 h))
         clear h1
         go_wp2_with fail
         clear hst6 hg6
         go_roundw
         case rel => exact ⟨k + 1, Hlt.out, by simp, HB6.out, HE.out⟩
         case measure => simp [intOf]; have := Hlt.out; omega
       ·have HE := hide (HNo.out (by rw [← Bool.not_eq_true, inSp_iff]; rintro ⟨-, h, -⟩; exact h2 h))
        clear h1
        go_wp2_with fail
        clear hst6 hg6
        go_roundw
        case rel => exact ⟨k + 1, Hlt.out, by simp, HB6.out, HE.out⟩
        case measure => simp [intOf]; have := Hlt.out; omega
      ·have h1b : (rp == (y : Int)) = false := by simpa using h1
       have HE := hide (HNo.out (by rw [← Bool.not_eq_true, inSp_iff]; rintro ⟨h, -, -⟩; exact h1 h))
       clear h1
       go_wp2_with fail
       clear hst6 hg6
       go_roundw
       case rel => exact ⟨k + 1, Hlt.out, by simp, HB6.out, HE.out⟩
       case measure => simp [intOf]; have := Hlt.out; omega
     ·have hlti : ¬ (k : Int) < (p.cn : Int) := by omega
      have HF : Hid (GivB w wr (.returned (.bool false)) (dotIn p.P ⟨(y : Int), num⟩)) := ⟨false, rfl, BIf.no (fun h => by
       rcases HIff.out.1 h with h | ⟨c, hc, h⟩
       ·have := Hnv.out; omega
       ·obtain ⟨j, hj, rfl⟩ := List.getElem_of_mem hc
        have h2 := HI.out.2 j (by rw [HX4.out.2.2.1.cloud.len] at hj; omega)
        rw [List.getD_eq_getElem?_getD, List.getElem?_eq_getElem hj] at h2
        simp only [Option.getD_some] at h2
        rw [h2] at h
        cases h), HX4.out.2.2.2.trans (HI.out.1.mono HX4.out.2.2.2.size)⟩
      go_wp2_with fail
      go_ret
      exact HF.out
  ·have hyi : ¬ (y : Int) < (p.vn : Int) := by omega
   go_upto_region 3 with fail
   refine wp_region_held_drew (S := fun W => W.cell? ⟨g1, 0, none⟩ = some (.slice p.vo p.vn p.vc) ∧ W.cell? ⟨g2, 0, none⟩ = some (.int .i64 (y : Int)) ∧ W.cell? ⟨g2, 1, none⟩ = some (.int .i64 num)) (by kernel_rfl) (HSt.out _ (below_drew1 w3)) (fun hHeld => ?_)
   refine wTk 0 ⟨some 10, .fieldAddr 46 (.tmp 3) 0, 0, "ref.go:212", #[], none⟩ rfl ?_
   refine wTk 1 ⟨some 11, .load 3 (.tmp 10), 3, "ref.go:212", #[⟨0, .data⟩], none⟩ rfl ?_
   refine wTk 2 ⟨some 12, .fieldAddr 26 (.tmp 2) 0, 0, "ref.go:212", #[], none⟩ rfl ?_
   refine wTk 3 ⟨some 13, .load 23 (.tmp 12), 23, "ref.go:212", #[⟨2, .data⟩], none⟩ rfl ?_
   refine wTk 4 ⟨some 14, .call ⟨.builtin .len, #[.tmp 13], #[23]⟩, 3, "ref.go:212", #[⟨3, .data⟩], none⟩ rfl ?_
   refine wTk 5 ⟨some 15, .binOp .lss 3 (.tmp 11) (.tmp 14) 3, 4, "ref.go:212", #[⟨1, .data⟩, ⟨4, .data⟩], none⟩ rfl ?_
   refine wTk 6 ⟨some 16, .move (.tmp 15), 4, "ref.go:212", #[⟨5, .data⟩], none⟩ rfl ?_
   refine wSk 7 ⟨some 17, .fieldAddr 46 (.tmp 3) 1, 0, "ref.go:212", #[⟨6, .guard⟩], some (6, true)⟩ rfl ?_
   refine wSk 8 ⟨some 18, .load 3 (.tmp 17), 3, "ref.go:212", #[⟨7, .data⟩, ⟨6, .guard⟩], some (6, true)⟩ rfl ?_
   refine wSk 9 ⟨some 19, .fieldAddr 26 (.tmp 2) 0, 0, "ref.go:212", #[⟨6, .guard⟩], some (6, true)⟩ rfl ?_
   refine wSk 10 ⟨some 20, .load 23 (.tmp 19), 23, "ref.go:212", #[⟨9, .data⟩, ⟨6, .guard⟩], some (6, true)⟩ rfl ?_
   refine wSk 11 ⟨some 21, .fieldAddr 46 (.tmp 3) 0, 0, "ref.go:212", #[⟨6, .guard⟩], some (6, true)⟩ rfl ?_
   refine wSk 12 ⟨some 22, .load 3 (.tmp 21), 3, "ref.go:212", #[⟨11, .data⟩, ⟨6, .guard⟩], some (6, true)⟩ rfl ?_
   refine wSk 13 ⟨some 23, .indexAddr 23 (.tmp 20) (.tmp 22), 0, "ref.go:212", #[⟨10, .data⟩, ⟨12, .data⟩, ⟨6, .guard⟩], some (6, true)⟩ rfl ?_
   refine wSk 14 ⟨some 24, .load 3 (.tmp 23), 3, "ref.go:212", #[⟨13, .data⟩, ⟨6, .guard⟩], some (6, true)⟩ rfl ?_
   refine wSk 15 ⟨some 25, .binOp .leq 3 (.tmp 18) (.tmp 24) 3, 4, "ref.go:212", #[⟨8, .data⟩, ⟨14, .data⟩, ⟨6, .guard⟩], some (6, true)⟩ rfl ?_
   refine wTk 16 ⟨some 26, .pick (.tmp 16) (.tmp 25) (.const (.bool false)), 4, "ref.go:212", #[⟨6, .data⟩, ⟨15, .data⟩], none⟩ rfl ?_
   refine wpAnyH_done (by kernel_rfl) ?_ _
   clear hHeld
   have Hnv : Hid (¬ num ≤ p.P.vec.getD y 0) := by
    rw [List.getD_eq_getElem?_getD, List.getElem?_eq_none (by omega)]
    simp only [Option.getD_none]
    show ¬ _
    omega
   have b4 : Below w3.heap.size w3 w3.drew := below_drew1 w3
   obtain ⟨w4, hw4⟩ : ∃ w4, w3.drew = w4 := ⟨_, rfl⟩
   rw [hw4] at b4 ⊢
   clear hw4
   clear hvl
   have HX4 : Hid (PBox w4 g1 p ∧ Box w4 g2 46 ⟨(y : Int), num⟩ ∧ PSrc w4 p ∧ Below w.heap.size w w4) := ⟨HX3.out.1.below b4, HX3.out.2.1.below b4, HX3.out.2.2.1.below b4, HX3.out.2.2.2.trans (b4.mono HX3.out.2.2.2.size)⟩
   clear b4 HX3 HSt HLo
   go_wp2_with fail
   go_loopw [5] (fun i wr => ∃ k : Nat, k ≤ p.cn ∧ i = .int .i64 (k : Int) ∧ Hid (Below w4.heap.size w4 wr ∧ ∀ j, j < k → inSp ⟨(y : Int), num⟩ (p.P.cloud.getD j sn0) = false)) (fun i _ => p.cn - (intOf i).toNat)
   case atStart => exact ⟨0, Nat.zero_le _, rfl, Below.refl _ _, fun j hj => by omega⟩
   case round =>
    obtain ⟨k, hk, rfl, HI⟩ := hrel
    rename World => wr
    have d1 := (HX4.out.1.below HI.out.1).nums.2
    by_cases hlt : k < p.cn
    ·have hlti : (k : Int) < (p.cn : Int) := by omega
     obtain ⟨ad, hco, A5⟩ := (HX4.out.2.2.1.below HI.out.1).cloud.at k hlt
     rw [hco] at d1
     obtain ⟨s, hs⟩ : ∃ s, p.P.cloud.getD k sn0 = s := ⟨_, rfl⟩
     rw [hs] at A5
     have l5 := run_ldS A5
     obtain ⟨g6, hg6⟩ : ∃ g6, wr.heap.size = g6 := ⟨_, rfl⟩
     obtain ⟨w6, hst6, X6, b6, -⟩ := madeS wr s g6 hg6
     have X2 := (HX4.out.2.1.below HI.out.1).below b6
     have e0 := X2.at.c0
     have e1 : w6.cell? ⟨g2, 1, none⟩ = some (.int .i64 num) := X2.at.c1
     dsimp only at e0
     obtain ⟨f0, f1, f2⟩ := X6.at
     have HB6 := hide (HI.out.1.trans (b6.mono HI.out.1.size))
     have Hs := hide hs
     have HMem : Hid (s ∈ p.P.cloud) := by
      rw [← hs, List.getD_eq_getElem?_getD, List.getElem?_eq_getElem (by rw [HX4.out.2.2.1.cloud.len]; exact hlt)]
      exact List.getElem_mem _
     have HBw := hide (HX4.out.2.2.2.trans (HB6.out.mono HX4.out.2.2.2.size))
     have HYes : Hid (inSp ⟨(y : Int), num⟩ s = true → GivB w w6 (.returned (.bool true)) (dotIn p.P ⟨(y : Int), num⟩)) := fun h => ⟨true, rfl, BIf.yes (HIff.out.2 (.inr ⟨s, HMem.out, h⟩)), HBw.out⟩
     have HNo : Hid (inSp ⟨(y : Int), num⟩ s = false → ∀ j, j < k + 1 → inSp ⟨(y : Int), num⟩ (p.P.cloud.getD j sn0) = false) := fun h j hj => by
      by_cases e : j = k
      ·rw [e, Hs.out]; exact h
      ·exact HI.out.2 j (by omega)
     obtain ⟨rp, lo, hi⟩ := s
     dsimp only at f0 f1 f2
     have Hlt := hide hlt
     clear A5 X6 b6 X2 hs hlt hk hco
     by_cases h1 : rp = (y : Int)
     ·have h1b : (rp == (y : Int)) = true := by simpa using h1
      by_cases h2 : lo ≤ num
      ·by_cases h3 : num ≤ hi
       ·have HE := hide (HYes.out (by rw [inSp_iff]; exact ⟨h1, h2, h3⟩))
        clear h1
        go_wp2_with fail
        clear hst6 hg6
        go_ret
        exact HE.out
       ·have HE := hide (HNo.out (by rw [← Bool.not_eq_true, inSp_iff]; rintro ⟨-, -, h⟩; exact h3 h))
        clear h1
        go_wp2_with fail
        clear hst6 hg6
        go_roundw
        case rel => exact ⟨k + 1, Hlt.out, by simp, HB6.out, HE.out⟩
        case measure => simp [intOf]; have := Hlt.out; omega
      ·have HE := hide (HNo.out (by rw [← Bool.not_eq_true, inSp_iff]; rintro ⟨-, h, -⟩; exact h2 h))
       clear h1
       go_wp2_with fail
       clear hst6 hg6
       go_roundw
       case rel => exact ⟨k + 1, Hlt.out, by simp, HB6.out, HE.out⟩
       case measure => simp [intOf]; have := Hlt.out; omega
     ·have h1b : (rp == (y : Int)) = false := by simpa using h1
      have HE := hide (HNo.out (by rw [← Bool.not_eq_true, inSp_iff]; rintro ⟨h, -, -⟩; exact h1 h))
      clear h1
      go_wp2_with fail
      clear hst6 hg6
      go_roundw
      case rel => exact ⟨k + 1, Hlt.out, by simp, HB6.out, HE.out⟩
      case measure => simp [intOf]; have := Hlt.out; omega
    ·have hlti : ¬ (k : Int) < (p.cn : Int) := by omega
     have HF : Hid (GivB w wr (.returned (.bool false)) (dotIn p.P ⟨(y : Int), num⟩)) := ⟨false, rfl, BIf.no (fun h => by
      rcases HIff.out.1 h with h | ⟨c, hc, h⟩
      ·have := Hnv.out; omega
      ·obtain ⟨j, hj, rfl⟩ := List.getElem_of_mem hc
       have h2 := HI.out.2 j (by rw [HX4.out.2.2.1.cloud.len] at hj; omega)
       rw [List.getD_eq_getElem?_getD, List.getElem?_eq_getElem hj] at h2
       simp only [Option.getD_some] at h2
       rw [h2] at h
       cases h), HX4.out.2.2.2.trans (HI.out.1.mono HX4.out.2.2.2.size)⟩
     go_wp2_with fail
     go_ret
     exact HF.out
end Go.Proofs.YtehcehhfdhiomaaGreat
