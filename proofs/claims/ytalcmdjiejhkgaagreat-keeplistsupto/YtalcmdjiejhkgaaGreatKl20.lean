/- HHo BMp BMr BPr GBs GRe PRg PTw PBk PBl -/
import Derived.Test.YtalcmdjiejhkgaaGreatTk
import Derived.Test.YtalcmdjiejhkgaaGreatKl16
import Derived.Test.YtalcmdjiejhkgaaGreatKl19
import Derived.Sort.KeysCollected
import Derived.Maps.Ext
import Derived.Maps.OwnOps
import Derived.StringKeys
import Derived.Below
import Derived.Maps.AppendAt
import Derived.Laws.OwnMore
import Derived.Test.YtalcmdjiejhkgaaGreatKl07
import Derived.Test.YtalcmdjiejhkgaaGreatKl00
import Derived.Deep.MidRow
import Derived.RegionTactic
import Derived.Test.YtalcmdjiejhkgaaGreatKl10
import Derived.Test.YtalcmdjiejhkgaaGreatKl11
import Derived.Test.YtalcmdjiejhkgaaGreatKl12
set_option maxRecDepth 100000
set_option maxHeartbeats 3200000
namespace Go.Proofs.YtalcmdjiejhkgaaGreat
section
open Go.RowKit
attribute [local go_sem ↓] ldP_eq stP_eq ldS_eq stS_eq
attribute [local go_sem] cells_PV PC_size cells_SV SC_size
def HoB (P : Pst) (y : Nat) (hi : Int) (b : Bool) : Prop := b = true ↔ hi <= P.vec.getD y 0
theorem holds_any (p : Pv) (y : Nat) (lo hi : Int) (w : World) (hS : PSrc w p) (hf : InForm p.P) (hy : y < 16) (h1 : 1 <= lo) (h2 : lo <= hi) (h3 : hi <= 1000000000) :
  Calls Tryz.prog 59 #[PV p, SV ⟨(y : Int), lo, hi⟩] w fun e w' => GivesB w w' e (spIn p.P ⟨(y : Int), lo, hi⟩) := by
 obtain ⟨t, Ht⟩ : ∃ t : Sn, Hid (t = ⟨(y : Int), lo, hi⟩) := ⟨_, rfl⟩
 have b1 := below_new w (.cells (PC p) 27)
 have x1 := pbox_new w p
 have s1 := World.size_alloc w (.cells (PC p) 27)
 obtain ⟨w1, hw1⟩ : ∃ w1, w.alloc (.cells (PC p) 27) = w1 := ⟨_, rfl⟩
 obtain ⟨g1, hg1⟩ : ∃ g1, w.heap.size = g1 := ⟨_, rfl⟩
 rw [hw1] at b1 x1 s1
 rw [hg1] at x1 s1
 have b2 := below_new w1 (.cells (SC ⟨(y : Int), lo, hi⟩) 45)
 have x2 := sbox_new w1 ⟨(y : Int), lo, hi⟩
 obtain ⟨w2, hw2⟩ : ∃ w2, w1.alloc (.cells (SC ⟨(y : Int), lo, hi⟩) 45) = w2 := ⟨_, rfl⟩
 rw [hw2] at b2 x2
 rw [s1] at x2
 have HB := hide (b1.trans (b2.mono b1.size))
 have HX : Hid (PBox w2 g1 p /\ SBox w2 (g1 + 1) ⟨(y : Int), lo, hi⟩) := ⟨x1.below b2, x2⟩
 have HS := hide (hS.below HB.out)
 have HF := hide hf
 have HBd : Hid (y < 16 /\ 1 <= lo /\ lo <= hi /\ hi <= 1000000000) := ⟨hy, h1, h2, h3⟩
 have HVN : Hid (p.P.vec.length = p.vn) := hS.vec.1
 have HCN : Hid (p.P.cloud.length = p.cn) := hS.cloud.len
 clear b1 b2 x1 x2 hS hf h1 h2 h3
 have HSt : Hid (∀ W, Below w2.heap.size w2 W -> W.cell? ⟨g1, 0, none⟩ = some (.slice p.vo p.vn p.vc) /\ W.cell? ⟨g1 + 1, 0, none⟩ = some (.int .i64 (y : Int)) /\ W.cell? ⟨g1 + 1, 2, none⟩ = some (.int .i64 hi)) := fun W hW => by
  obtain ⟨c0, -, c2⟩ := (HX.out.2.below hW).at
  exact ⟨(HX.out.1.below hW).nums.1, c0, c2⟩
 go_enter Tryz.func59, Tryz.ntmps59
 go_upto_region 1 with fail
 clear hw1 hw2 s1 hg1
 go_cut [23] from 7 to 22 (fun v W => ∃ b : Bool, v = .bool b /\ Hid (HoB p.P y hi b /\ Below w2.heap.size w2 W))
 case first =>
  by_cases hv : y < p.vn
  ·have hvi : (y : Int) < (p.vn : Int) := by omega
   obtain ⟨ad, hao, cz⟩ := isrc_at HS.out.vec y hv
   obtain ⟨z, Hz⟩ : ∃ z, Hid (p.P.vec.getD y 0 = z) := ⟨_, rfl⟩
   rw [Hz.out] at cz
   have Hao := hide hao
   have HCz := hide cz
   have HSv : Hid (∀ W, Below w2.heap.size w2 W -> W.cell? ⟨g1, 0, none⟩ = some (.slice (some ad) p.vn p.vc) /\ W.cell? ⟨g1 + 1, 0, none⟩ = some (.int .i64 (y : Int)) /\ W.cell? ⟨g1 + 1, 2, none⟩ = some (.int .i64 hi) /\ W.cell? (ad.add y) = some (.int .i64 z)) := fun W hW => by
    obtain ⟨c0, c1, c2⟩ := HSt.out W hW
    rw [Hao.out] at c0
    exact ⟨c0, c1, c2, (hW.cell (World.block_lt_of_cell? _ _ HCz.out)).trans HCz.out⟩
   clear cz hao
   refine wp_region_held_drew (S := fun W => W.cell? ⟨g1, 0, none⟩ = some (.slice (some ad) p.vn p.vc) /\ W.cell? ⟨g1 + 1, 0, none⟩ = some (.int .i64 (y : Int)) /\ W.cell? ⟨g1 + 1, 2, none⟩ = some (.int .i64 hi) /\ W.cell? (ad.add y) = some (.int .i64 z)) (by kernel_rfl) (HSv.out _ (below_drew1 w2)) (fun hHeld => ?_)
   refine wTk 0 ⟨some 7, .fieldAddr 45 (.tmp 3) 0, 0, "records.go:115", #[], none⟩ rfl ?_
   refine wTk 1 ⟨some 8, .load 3 (.tmp 7), 3, "records.go:115", #[⟨0, .data⟩], none⟩ rfl ?_
   refine wTk 2 ⟨some 9, .fieldAddr 27 (.tmp 2) 0, 0, "records.go:115", #[], none⟩ rfl ?_
   refine wTk 3 ⟨some 10, .load 24 (.tmp 9), 24, "records.go:115", #[⟨2, .data⟩], none⟩ rfl ?_
   refine wTk 4 ⟨some 11, .call ⟨.builtin .len, #[.tmp 10], #[24]⟩, 3, "records.go:115", #[⟨3, .data⟩], none⟩ rfl ?_
   refine wTk 5 ⟨some 12, .binOp .lss 3 (.tmp 8) (.tmp 11) 3, 4, "records.go:115", #[⟨1, .data⟩, ⟨4, .data⟩], none⟩ rfl ?_
   refine wTk 6 ⟨some 13, .move (.tmp 12), 4, "records.go:115", #[⟨5, .data⟩], none⟩ rfl ?_
   refine wTk 7 ⟨some 14, .fieldAddr 45 (.tmp 3) 2, 0, "records.go:115", #[⟨6, .guard⟩], some (6, true)⟩ rfl ?_
   refine wTk 8 ⟨some 15, .load 3 (.tmp 14), 3, "records.go:115", #[⟨7, .data⟩, ⟨6, .guard⟩], some (6, true)⟩ rfl ?_
   refine wTk 9 ⟨some 16, .fieldAddr 27 (.tmp 2) 0, 0, "records.go:115", #[⟨6, .guard⟩], some (6, true)⟩ rfl ?_
   refine wTk 10 ⟨some 17, .load 24 (.tmp 16), 24, "records.go:115", #[⟨9, .data⟩, ⟨6, .guard⟩], some (6, true)⟩ rfl ?_
   refine wTk 11 ⟨some 18, .fieldAddr 45 (.tmp 3) 0, 0, "records.go:115", #[⟨6, .guard⟩], some (6, true)⟩ rfl ?_
   refine wTk 12 ⟨some 19, .load 3 (.tmp 18), 3, "records.go:115", #[⟨11, .data⟩, ⟨6, .guard⟩], some (6, true)⟩ rfl ?_
   refine wTk 13 ⟨some 20, .indexAddr 24 (.tmp 17) (.tmp 19), 0, "records.go:115", #[⟨10, .data⟩, ⟨12, .data⟩, ⟨6, .guard⟩], some (6, true)⟩ rfl ?_
   refine wTk 14 ⟨some 21, .load 3 (.tmp 20), 3, "records.go:115", #[⟨13, .data⟩, ⟨6, .guard⟩], some (6, true)⟩ rfl ?_
   refine wTk 15 ⟨some 22, .binOp .leq 3 (.tmp 15) (.tmp 21) 3, 4, "records.go:115", #[⟨8, .data⟩, ⟨14, .data⟩, ⟨6, .guard⟩], some (6, true)⟩ rfl ?_
   refine wTk 16 ⟨some 23, .pick (.tmp 13) (.tmp 22) (.const (.bool false)), 4, "records.go:115", #[⟨6, .data⟩, ⟨15, .data⟩], none⟩ rfl ?_
   refine wpAnyH_done (by kernel_rfl) ?_ _
   clear hHeld
   by_cases hc : hi <= z
   ·have HE : Hid (HoB p.P y hi true /\ Below w2.heap.size w2 w2.drew) := ⟨⟨fun _ => by rw [Hz.out]; exact hc, fun _ => rfl⟩, below_drew1 w2⟩
    go_wp2_with fail
    go_meet
    case rel => exact ⟨true, by simp [hc], HE.out⟩
   ·have HE : Hid (HoB p.P y hi false /\ Below w2.heap.size w2 w2.drew) := ⟨⟨fun h => (by cases h), fun h => absurd (by rwa [Hz.out] at h) hc⟩, below_drew1 w2⟩
    go_wp2_with fail
    go_meet
    case rel => exact ⟨false, by simp [hc], HE.out⟩
  ·have hvi : ¬ (y : Int) < (p.vn : Int) := by omega
   have HE : Hid (HoB p.P y hi false /\ Below w2.heap.size w2 w2.drew) := ⟨⟨fun h => (by cases h), fun h => by
    rw [List.getD_eq_getElem?_getD, List.getElem?_eq_none (by rw [HVN.out]; omega)] at h
    have h : hi <= 0 := h
    have := HBd.out
    omega⟩, below_drew1 w2⟩
   refine wp_region_held_drew (S := fun W => W.cell? ⟨g1, 0, none⟩ = some (.slice p.vo p.vn p.vc) /\ W.cell? ⟨g1 + 1, 0, none⟩ = some (.int .i64 (y : Int)) /\ W.cell? ⟨g1 + 1, 2, none⟩ = some (.int .i64 hi)) (by kernel_rfl) (HSt.out _ (below_drew1 w2)) (fun hHeld => ?_)
   refine wTk 0 ⟨some 7, .fieldAddr 45 (.tmp 3) 0, 0, "records.go:115", #[], none⟩ rfl ?_
   refine wTk 1 ⟨some 8, .load 3 (.tmp 7), 3, "records.go:115", #[⟨0, .data⟩], none⟩ rfl ?_
   refine wTk 2 ⟨some 9, .fieldAddr 27 (.tmp 2) 0, 0, "records.go:115", #[], none⟩ rfl ?_
   refine wTk 3 ⟨some 10, .load 24 (.tmp 9), 24, "records.go:115", #[⟨2, .data⟩], none⟩ rfl ?_
   refine wTk 4 ⟨some 11, .call ⟨.builtin .len, #[.tmp 10], #[24]⟩, 3, "records.go:115", #[⟨3, .data⟩], none⟩ rfl ?_
   refine wTk 5 ⟨some 12, .binOp .lss 3 (.tmp 8) (.tmp 11) 3, 4, "records.go:115", #[⟨1, .data⟩, ⟨4, .data⟩], none⟩ rfl ?_
   refine wTk 6 ⟨some 13, .move (.tmp 12), 4, "records.go:115", #[⟨5, .data⟩], none⟩ rfl ?_
   refine wSk 7 ⟨some 14, .fieldAddr 45 (.tmp 3) 2, 0, "records.go:115", #[⟨6, .guard⟩], some (6, true)⟩ rfl ?_
   refine wSk 8 ⟨some 15, .load 3 (.tmp 14), 3, "records.go:115", #[⟨7, .data⟩, ⟨6, .guard⟩], some (6, true)⟩ rfl ?_
   refine wSk 9 ⟨some 16, .fieldAddr 27 (.tmp 2) 0, 0, "records.go:115", #[⟨6, .guard⟩], some (6, true)⟩ rfl ?_
   refine wSk 10 ⟨some 17, .load 24 (.tmp 16), 24, "records.go:115", #[⟨9, .data⟩, ⟨6, .guard⟩], some (6, true)⟩ rfl ?_
   refine wSk 11 ⟨some 18, .fieldAddr 45 (.tmp 3) 0, 0, "records.go:115", #[⟨6, .guard⟩], some (6, true)⟩ rfl ?_
   refine wSk 12 ⟨some 19, .load 3 (.tmp 18), 3, "records.go:115", #[⟨11, .data⟩, ⟨6, .guard⟩], some (6, true)⟩ rfl ?_
   refine wSk 13 ⟨some 20, .indexAddr 24 (.tmp 17) (.tmp 19), 0, "records.go:115", #[⟨10, .data⟩, ⟨12, .data⟩, ⟨6, .guard⟩], some (6, true)⟩ rfl ?_
   refine wSk 14 ⟨some 21, .load 3 (.tmp 20), 3, "records.go:115", #[⟨13, .data⟩, ⟨6, .guard⟩], some (6, true)⟩ rfl ?_
   refine wSk 15 ⟨some 22, .binOp .leq 3 (.tmp 15) (.tmp 21) 3, 4, "records.go:115", #[⟨8, .data⟩, ⟨14, .data⟩, ⟨6, .guard⟩], some (6, true)⟩ rfl ?_
   refine wTk 16 ⟨some 23, .pick (.tmp 13) (.tmp 22) (.const (.bool false)), 4, "records.go:115", #[⟨6, .data⟩, ⟨15, .data⟩], none⟩ rfl ?_
   refine wpAnyH_done (by kernel_rfl) ?_ _
   clear hHeld
   go_wp2_with fail
   go_meet
   case rel => exact ⟨false, rfl, HE.out⟩
 case rest =>
  obtain ⟨b, rfl, HV⟩ := hcut
  rename World => w3
  cases b with
  | true =>
   have HE : Hid (GivesB w w3 (.returned (.bool true)) (spIn p.P ⟨(y : Int), lo, hi⟩)) := ⟨true, rfl, ⟨fun _ => hold_vec HBd.out.1 HBd.out.2.1 HBd.out.2.2.2 (HV.out.1.1 rfl), fun _ => rfl⟩, HB.out.trans (HV.out.2.mono HB.out.size)⟩
   go_wp2_with fail
   go_ret
   exact HE.out
  | false =>
   have HNv : Hid (¬ hi <= p.P.vec.getD y 0) := fun h => by have := HV.out.1.2 h; cases this
   have n1 := (HX.out.1.below HV.out.2).nums.2
   have ls := run_ldS (HX.out.2.below HV.out.2).sn
   go_wp2_with fail
   clear n1 ls
   refine (bsS_any p.co p.cn p.cc p.P.cloud ⟨(y : Int), lo, hi⟩ _ (HS.out.below HV.out.2).cloud (fun a b hab hb => near_mono HF.out _ a b hab (by rw [HCN.out]; exact hb))).mono ?_
   rintro e w4 ⟨i, q, rfl, hF, b4⟩
   have HB4 := hide (HV.out.2.trans (b4.mono HV.out.2.size))
   have HI := hide (hold_iff HF.out HCN.out HBd.out.1 HBd.out.2.1 HBd.out.2.2.1 HBd.out.2.2.2 hF HNv.out)
   have hin : i <= p.cn := hF.1
   have hnb : p.cn <= 5864062014805 := HS.out.cloud.big
   have HSu : Hid (∀ W, Below w4.heap.size w4 W -> W.cell? ⟨g1, 1, none⟩ = some (.slice p.co p.cn p.cc) /\ W.cell? ⟨g1 + 1, 0, none⟩ = some (.int .i64 (y : Int)) /\ W.cell? ⟨g1 + 1, 1, none⟩ = some (.int .i64 lo)) := fun W hW => by
    have hW2 := HB4.out.trans (hW.mono HB4.out.size)
    obtain ⟨c0, c1, -⟩ := (HX.out.2.below hW2).at
    exact ⟨(HX.out.1.below hW2).nums.2, c0, c1⟩
   have HBw := hide (HB.out.trans (HB4.out.mono HB.out.size))
   clear hF b4
   by_cases hlt : i < p.cn
   ·have hlti : (i : Int) < (p.cn : Int) := by omega
    obtain ⟨ad, hao, A0⟩ := (HS.out.below HB4.out).cloud.at i hlt
    obtain ⟨s, Hs⟩ : ∃ s, Hid (p.P.cloud.getD i sn0 = s) := ⟨_, rfl⟩
    rw [Hs.out] at A0
    obtain ⟨b1, o1, rfl⟩ : ∃ b1 o1, ad = ⟨b1, o1, none⟩ := by
     have h := (HS.out.below HB4.out).cloud
     rw [hao] at h
     exact h.spot (by omega)
    rw [Addr.add_lit] at A0
    have Hao := hide hao
    have HA0 := hide A0
    have HSw : Hid (∀ W, Below w4.heap.size w4 W -> W.cell? ⟨g1, 1, none⟩ = some (.slice (some ⟨b1, o1, none⟩) p.cn p.cc) /\ W.cell? ⟨g1 + 1, 0, none⟩ = some (.int .i64 (y : Int)) /\ W.cell? ⟨g1 + 1, 1, none⟩ = some (.int .i64 lo) /\ W.cell? ⟨b1, o1 + i * 3, none⟩ = some (.int .i64 s.rep) /\ W.cell? ⟨b1, o1 + i * 3 + 1, none⟩ = some (.int .i64 s.lo)) := fun W hW => by
     obtain ⟨c0, c1, c2⟩ := HSu.out W hW
     rw [Hao.out] at c0
     have h := HA0.out.on hW
     have h1 := h.c1
     rw [Addr.add_lit] at h1
     exact ⟨c0, c1, c2, h.c0, h1⟩
    clear A0 hao
    by_cases e1 : s.rep = (y : Int)
    ·by_cases e2 : s.lo <= lo
     ·have HE : Hid (∀ W, Below w4.heap.size w4 W -> GivesB w W (.returned (.bool true)) (spIn p.P ⟨(y : Int), lo, hi⟩)) := fun W hW => ⟨true, rfl, ⟨fun _ => HI.out.1 (by rw [Hs.out]; exact ⟨hlt, e1, e2⟩), fun _ => rfl⟩, HBw.out.trans (hW.mono HBw.out.size)⟩
      have eb : ((s.rep : Int) == (y : Int)) = true := by rw [e1]; simp
      have ed : decide (s.lo <= lo) = true := decide_eq_true e2
      clear e1
      go_upto_region 4 with fail
      refine wp_region_held_drew (S := fun W => W.cell? ⟨g1, 1, none⟩ = some (.slice (some ⟨b1, o1, none⟩) p.cn p.cc) /\ W.cell? ⟨g1 + 1, 0, none⟩ = some (.int .i64 (y : Int)) /\ W.cell? ⟨g1 + 1, 1, none⟩ = some (.int .i64 lo) /\ W.cell? ⟨b1, o1 + i * 3, none⟩ = some (.int .i64 s.rep) /\ W.cell? ⟨b1, o1 + i * 3 + 1, none⟩ = some (.int .i64 s.lo)) (by kernel_rfl) (HSw.out _ (below_drew1 w4)) (fun hHeld => ?_)
      refine wTk 0 ⟨some 31, .move (.tmp 5), 3, "records.go:121", #[], none⟩ rfl ?_
      refine wTk 1 ⟨some 32, .fieldAddr 27 (.tmp 2) 1, 0, "records.go:121", #[], none⟩ rfl ?_
      refine wTk 2 ⟨some 33, .load 25 (.tmp 32), 25, "records.go:121", #[⟨1, .data⟩], none⟩ rfl ?_
      refine wTk 3 ⟨some 34, .call ⟨.builtin .len, #[.tmp 33], #[25]⟩, 3, "records.go:121", #[⟨2, .data⟩], none⟩ rfl ?_
      refine wTk 4 ⟨some 35, .binOp .lss 3 (.tmp 31) (.tmp 34) 3, 4, "records.go:121", #[⟨0, .data⟩, ⟨3, .data⟩], none⟩ rfl ?_
      refine wTk 5 ⟨some 36, .move (.tmp 35), 4, "records.go:121", #[⟨4, .data⟩], none⟩ rfl ?_
      refine wTk 6 ⟨some 37, .fieldAddr 27 (.tmp 2) 1, 0, "records.go:121", #[⟨5, .guard⟩], some (5, true)⟩ rfl ?_
      refine wTk 7 ⟨some 38, .load 25 (.tmp 37), 25, "records.go:121", #[⟨6, .data⟩, ⟨5, .guard⟩], some (5, true)⟩ rfl ?_
      refine wTk 8 ⟨some 39, .move (.tmp 5), 3, "records.go:121", #[⟨5, .guard⟩], some (5, true)⟩ rfl ?_
      refine wTk 9 ⟨some 40, .indexAddr 25 (.tmp 38) (.tmp 39), 0, "records.go:121", #[⟨7, .data⟩, ⟨8, .data⟩, ⟨5, .guard⟩], some (5, true)⟩ rfl ?_
      refine wTk 10 ⟨some 41, .fieldAddr 45 (.tmp 40) 0, 0, "records.go:121", #[⟨9, .data⟩, ⟨5, .guard⟩], some (5, true)⟩ rfl ?_
      refine wTk 11 ⟨some 42, .load 3 (.tmp 41), 3, "records.go:121", #[⟨10, .data⟩, ⟨5, .guard⟩], some (5, true)⟩ rfl ?_
      refine wTk 12 ⟨some 43, .fieldAddr 45 (.tmp 3) 0, 0, "records.go:121", #[⟨5, .guard⟩], some (5, true)⟩ rfl ?_
      refine wTk 13 ⟨some 44, .load 3 (.tmp 43), 3, "records.go:121", #[⟨12, .data⟩, ⟨5, .guard⟩], some (5, true)⟩ rfl ?_
      refine wTk 14 ⟨some 45, .binOp .eql 3 (.tmp 42) (.tmp 44) 3, 4, "records.go:121", #[⟨11, .data⟩, ⟨13, .data⟩, ⟨5, .guard⟩], some (5, true)⟩ rfl ?_
      refine wTk 15 ⟨some 46, .pick (.tmp 36) (.tmp 45) (.const (.bool false)), 4, "records.go:121", #[⟨5, .data⟩, ⟨14, .data⟩], none⟩ rfl ?_
      refine wTk 16 ⟨some 47, .move (.tmp 46), 4, "records.go:121", #[⟨15, .data⟩, ⟨5, .chain⟩], none⟩ rfl ?_
      refine wTk 17 ⟨some 48, .fieldAddr 27 (.tmp 2) 1, 0, "records.go:121", #[⟨16, .guard⟩], some (16, true)⟩ rfl ?_
      refine wTk 18 ⟨some 49, .load 25 (.tmp 48), 25, "records.go:121", #[⟨17, .data⟩, ⟨16, .guard⟩], some (16, true)⟩ rfl ?_
      refine wTk 19 ⟨some 50, .move (.tmp 5), 3, "records.go:121", #[⟨16, .guard⟩], some (16, true)⟩ rfl ?_
      refine wTk 20 ⟨some 51, .indexAddr 25 (.tmp 49) (.tmp 50), 0, "records.go:121", #[⟨18, .data⟩, ⟨19, .data⟩, ⟨16, .guard⟩], some (16, true)⟩ rfl ?_
      refine wTk 21 ⟨some 52, .fieldAddr 45 (.tmp 51) 1, 0, "records.go:121", #[⟨20, .data⟩, ⟨16, .guard⟩], some (16, true)⟩ rfl ?_
      refine wTk 22 ⟨some 53, .load 3 (.tmp 52), 3, "records.go:121", #[⟨21, .data⟩, ⟨16, .guard⟩], some (16, true)⟩ rfl ?_
      refine wTk 23 ⟨some 54, .fieldAddr 45 (.tmp 3) 1, 0, "records.go:121", #[⟨16, .guard⟩], some (16, true)⟩ rfl ?_
      refine wTk 24 ⟨some 55, .load 3 (.tmp 54), 3, "records.go:121", #[⟨23, .data⟩, ⟨16, .guard⟩], some (16, true)⟩ rfl ?_
      refine wTk 25 ⟨some 56, .binOp .leq 3 (.tmp 53) (.tmp 55) 3, 4, "records.go:121", #[⟨22, .data⟩, ⟨24, .data⟩, ⟨16, .guard⟩], some (16, true)⟩ rfl ?_
      refine wTk 26 ⟨some 57, .pick (.tmp 47) (.tmp 56) (.const (.bool false)), 4, "records.go:121", #[⟨16, .data⟩, ⟨25, .data⟩], none⟩ rfl ?_
      refine wTk 27 ⟨some 4, .assign (.tmp 57), 4, "records.go:121", #[⟨26, .data⟩, ⟨16, .chain⟩, ⟨0, .phase⟩, ⟨1, .phase⟩, ⟨2, .phase⟩, ⟨3, .phase⟩, ⟨4, .phase⟩, ⟨5, .phase⟩, ⟨6, .phase⟩, ⟨7, .phase⟩, ⟨8, .phase⟩, ⟨9, .phase⟩, ⟨10, .phase⟩, ⟨11, .phase⟩, ⟨12, .phase⟩, ⟨13, .phase⟩, ⟨14, .phase⟩, ⟨15, .phase⟩, ⟨16, .phase⟩, ⟨17, .phase⟩, ⟨18, .phase⟩, ⟨19, .phase⟩, ⟨20, .phase⟩, ⟨21, .phase⟩, ⟨22, .phase⟩, ⟨23, .phase⟩, ⟨24, .phase⟩, ⟨25, .phase⟩, ⟨26, .phase⟩], none⟩ rfl ?_
      refine wpAnyH_done (by kernel_rfl) ?_ _
      clear hHeld
      go_wp2_with fail
      go_ret
      exact HE.out _ (below_drew1 w4)
     ·have HE : Hid (∀ W, Below w4.heap.size w4 W -> GivesB w W (.returned (.bool false)) (spIn p.P ⟨(y : Int), lo, hi⟩)) := fun W hW => ⟨false, rfl, ⟨fun h => (by cases h), fun h => absurd (by have := (HI.out.2 h).2.2; rwa [Hs.out] at this) e2⟩, HBw.out.trans (hW.mono HBw.out.size)⟩
      have eb : ((s.rep : Int) == (y : Int)) = true := by rw [e1]; simp
      have ed : decide (s.lo <= lo) = false := decide_eq_false e2
      clear e1
      go_upto_region 4 with fail
      refine wp_region_held_drew (S := fun W => W.cell? ⟨g1, 1, none⟩ = some (.slice (some ⟨b1, o1, none⟩) p.cn p.cc) /\ W.cell? ⟨g1 + 1, 0, none⟩ = some (.int .i64 (y : Int)) /\ W.cell? ⟨g1 + 1, 1, none⟩ = some (.int .i64 lo) /\ W.cell? ⟨b1, o1 + i * 3, none⟩ = some (.int .i64 s.rep) /\ W.cell? ⟨b1, o1 + i * 3 + 1, none⟩ = some (.int .i64 s.lo)) (by kernel_rfl) (HSw.out _ (below_drew1 w4)) (fun hHeld => ?_)
      refine wTk 0 ⟨some 31, .move (.tmp 5), 3, "records.go:121", #[], none⟩ rfl ?_
      refine wTk 1 ⟨some 32, .fieldAddr 27 (.tmp 2) 1, 0, "records.go:121", #[], none⟩ rfl ?_
      refine wTk 2 ⟨some 33, .load 25 (.tmp 32), 25, "records.go:121", #[⟨1, .data⟩], none⟩ rfl ?_
      refine wTk 3 ⟨some 34, .call ⟨.builtin .len, #[.tmp 33], #[25]⟩, 3, "records.go:121", #[⟨2, .data⟩], none⟩ rfl ?_
      refine wTk 4 ⟨some 35, .binOp .lss 3 (.tmp 31) (.tmp 34) 3, 4, "records.go:121", #[⟨0, .data⟩, ⟨3, .data⟩], none⟩ rfl ?_
      refine wTk 5 ⟨some 36, .move (.tmp 35), 4, "records.go:121", #[⟨4, .data⟩], none⟩ rfl ?_
      refine wTk 6 ⟨some 37, .fieldAddr 27 (.tmp 2) 1, 0, "records.go:121", #[⟨5, .guard⟩], some (5, true)⟩ rfl ?_
      refine wTk 7 ⟨some 38, .load 25 (.tmp 37), 25, "records.go:121", #[⟨6, .data⟩, ⟨5, .guard⟩], some (5, true)⟩ rfl ?_
      refine wTk 8 ⟨some 39, .move (.tmp 5), 3, "records.go:121", #[⟨5, .guard⟩], some (5, true)⟩ rfl ?_
      refine wTk 9 ⟨some 40, .indexAddr 25 (.tmp 38) (.tmp 39), 0, "records.go:121", #[⟨7, .data⟩, ⟨8, .data⟩, ⟨5, .guard⟩], some (5, true)⟩ rfl ?_
      refine wTk 10 ⟨some 41, .fieldAddr 45 (.tmp 40) 0, 0, "records.go:121", #[⟨9, .data⟩, ⟨5, .guard⟩], some (5, true)⟩ rfl ?_
      refine wTk 11 ⟨some 42, .load 3 (.tmp 41), 3, "records.go:121", #[⟨10, .data⟩, ⟨5, .guard⟩], some (5, true)⟩ rfl ?_
      refine wTk 12 ⟨some 43, .fieldAddr 45 (.tmp 3) 0, 0, "records.go:121", #[⟨5, .guard⟩], some (5, true)⟩ rfl ?_
      refine wTk 13 ⟨some 44, .load 3 (.tmp 43), 3, "records.go:121", #[⟨12, .data⟩, ⟨5, .guard⟩], some (5, true)⟩ rfl ?_
      refine wTk 14 ⟨some 45, .binOp .eql 3 (.tmp 42) (.tmp 44) 3, 4, "records.go:121", #[⟨11, .data⟩, ⟨13, .data⟩, ⟨5, .guard⟩], some (5, true)⟩ rfl ?_
      refine wTk 15 ⟨some 46, .pick (.tmp 36) (.tmp 45) (.const (.bool false)), 4, "records.go:121", #[⟨5, .data⟩, ⟨14, .data⟩], none⟩ rfl ?_
      refine wTk 16 ⟨some 47, .move (.tmp 46), 4, "records.go:121", #[⟨15, .data⟩, ⟨5, .chain⟩], none⟩ rfl ?_
      refine wTk 17 ⟨some 48, .fieldAddr 27 (.tmp 2) 1, 0, "records.go:121", #[⟨16, .guard⟩], some (16, true)⟩ rfl ?_
      refine wTk 18 ⟨some 49, .load 25 (.tmp 48), 25, "records.go:121", #[⟨17, .data⟩, ⟨16, .guard⟩], some (16, true)⟩ rfl ?_
      refine wTk 19 ⟨some 50, .move (.tmp 5), 3, "records.go:121", #[⟨16, .guard⟩], some (16, true)⟩ rfl ?_
      refine wTk 20 ⟨some 51, .indexAddr 25 (.tmp 49) (.tmp 50), 0, "records.go:121", #[⟨18, .data⟩, ⟨19, .data⟩, ⟨16, .guard⟩], some (16, true)⟩ rfl ?_
      refine wTk 21 ⟨some 52, .fieldAddr 45 (.tmp 51) 1, 0, "records.go:121", #[⟨20, .data⟩, ⟨16, .guard⟩], some (16, true)⟩ rfl ?_
      refine wTk 22 ⟨some 53, .load 3 (.tmp 52), 3, "records.go:121", #[⟨21, .data⟩, ⟨16, .guard⟩], some (16, true)⟩ rfl ?_
      refine wTk 23 ⟨some 54, .fieldAddr 45 (.tmp 3) 1, 0, "records.go:121", #[⟨16, .guard⟩], some (16, true)⟩ rfl ?_
      refine wTk 24 ⟨some 55, .load 3 (.tmp 54), 3, "records.go:121", #[⟨23, .data⟩, ⟨16, .guard⟩], some (16, true)⟩ rfl ?_
      refine wTk 25 ⟨some 56, .binOp .leq 3 (.tmp 53) (.tmp 55) 3, 4, "records.go:121", #[⟨22, .data⟩, ⟨24, .data⟩, ⟨16, .guard⟩], some (16, true)⟩ rfl ?_
      refine wTk 26 ⟨some 57, .pick (.tmp 47) (.tmp 56) (.const (.bool false)), 4, "records.go:121", #[⟨16, .data⟩, ⟨25, .data⟩], none⟩ rfl ?_
      refine wTk 27 ⟨some 4, .assign (.tmp 57), 4, "records.go:121", #[⟨26, .data⟩, ⟨16, .chain⟩, ⟨0, .phase⟩, ⟨1, .phase⟩, ⟨2, .phase⟩, ⟨3, .phase⟩, ⟨4, .phase⟩, ⟨5, .phase⟩, ⟨6, .phase⟩, ⟨7, .phase⟩, ⟨8, .phase⟩, ⟨9, .phase⟩, ⟨10, .phase⟩, ⟨11, .phase⟩, ⟨12, .phase⟩, ⟨13, .phase⟩, ⟨14, .phase⟩, ⟨15, .phase⟩, ⟨16, .phase⟩, ⟨17, .phase⟩, ⟨18, .phase⟩, ⟨19, .phase⟩, ⟨20, .phase⟩, ⟨21, .phase⟩, ⟨22, .phase⟩, ⟨23, .phase⟩, ⟨24, .phase⟩, ⟨25, .phase⟩, ⟨26, .phase⟩], none⟩ rfl ?_
      refine wpAnyH_done (by kernel_rfl) ?_ _
      clear hHeld
      go_wp2_with fail
      go_ret
      exact HE.out _ (below_drew1 w4)
    ·have HE : Hid (∀ W, Below w4.heap.size w4 W -> GivesB w W (.returned (.bool false)) (spIn p.P ⟨(y : Int), lo, hi⟩)) := fun W hW => ⟨false, rfl, ⟨fun h => (by cases h), fun h => absurd (by have := (HI.out.2 h).2.1; rwa [Hs.out] at this) e1⟩, HBw.out.trans (hW.mono HBw.out.size)⟩
     have eb : ((s.rep : Int) == (y : Int)) = false := by rw [beq_eq_false_iff_ne]; exact e1
     clear e1
     go_upto_region 4 with fail
     refine wp_region_held_drew (S := fun W => W.cell? ⟨g1, 1, none⟩ = some (.slice (some ⟨b1, o1, none⟩) p.cn p.cc) /\ W.cell? ⟨g1 + 1, 0, none⟩ = some (.int .i64 (y : Int)) /\ W.cell? ⟨g1 + 1, 1, none⟩ = some (.int .i64 lo) /\ W.cell? ⟨b1, o1 + i * 3, none⟩ = some (.int .i64 s.rep) /\ W.cell? ⟨b1, o1 + i * 3 + 1, none⟩ = some (.int .i64 s.lo)) (by kernel_rfl) (HSw.out _ (below_drew1 w4)) (fun hHeld => ?_)
     refine wTk 0 ⟨some 31, .move (.tmp 5), 3, "records.go:121", #[], none⟩ rfl ?_
     refine wTk 1 ⟨some 32, .fieldAddr 27 (.tmp 2) 1, 0, "records.go:121", #[], none⟩ rfl ?_
     refine wTk 2 ⟨some 33, .load 25 (.tmp 32), 25, "records.go:121", #[⟨1, .data⟩], none⟩ rfl ?_
     refine wTk 3 ⟨some 34, .call ⟨.builtin .len, #[.tmp 33], #[25]⟩, 3, "records.go:121", #[⟨2, .data⟩], none⟩ rfl ?_
     refine wTk 4 ⟨some 35, .binOp .lss 3 (.tmp 31) (.tmp 34) 3, 4, "records.go:121", #[⟨0, .data⟩, ⟨3, .data⟩], none⟩ rfl ?_
     refine wTk 5 ⟨some 36, .move (.tmp 35), 4, "records.go:121", #[⟨4, .data⟩], none⟩ rfl ?_
     refine wTk 6 ⟨some 37, .fieldAddr 27 (.tmp 2) 1, 0, "records.go:121", #[⟨5, .guard⟩], some (5, true)⟩ rfl ?_
     refine wTk 7 ⟨some 38, .load 25 (.tmp 37), 25, "records.go:121", #[⟨6, .data⟩, ⟨5, .guard⟩], some (5, true)⟩ rfl ?_
     refine wTk 8 ⟨some 39, .move (.tmp 5), 3, "records.go:121", #[⟨5, .guard⟩], some (5, true)⟩ rfl ?_
     refine wTk 9 ⟨some 40, .indexAddr 25 (.tmp 38) (.tmp 39), 0, "records.go:121", #[⟨7, .data⟩, ⟨8, .data⟩, ⟨5, .guard⟩], some (5, true)⟩ rfl ?_
     refine wTk 10 ⟨some 41, .fieldAddr 45 (.tmp 40) 0, 0, "records.go:121", #[⟨9, .data⟩, ⟨5, .guard⟩], some (5, true)⟩ rfl ?_
     refine wTk 11 ⟨some 42, .load 3 (.tmp 41), 3, "records.go:121", #[⟨10, .data⟩, ⟨5, .guard⟩], some (5, true)⟩ rfl ?_
     refine wTk 12 ⟨some 43, .fieldAddr 45 (.tmp 3) 0, 0, "records.go:121", #[⟨5, .guard⟩], some (5, true)⟩ rfl ?_
     refine wTk 13 ⟨some 44, .load 3 (.tmp 43), 3, "records.go:121", #[⟨12, .data⟩, ⟨5, .guard⟩], some (5, true)⟩ rfl ?_
     refine wTk 14 ⟨some 45, .binOp .eql 3 (.tmp 42) (.tmp 44) 3, 4, "records.go:121", #[⟨11, .data⟩, ⟨13, .data⟩, ⟨5, .guard⟩], some (5, true)⟩ rfl ?_
     refine wTk 15 ⟨some 46, .pick (.tmp 36) (.tmp 45) (.const (.bool false)), 4, "records.go:121", #[⟨5, .data⟩, ⟨14, .data⟩], none⟩ rfl ?_
     refine wTk 16 ⟨some 47, .move (.tmp 46), 4, "records.go:121", #[⟨15, .data⟩, ⟨5, .chain⟩], none⟩ rfl ?_
     refine wSk 17 ⟨some 48, .fieldAddr 27 (.tmp 2) 1, 0, "records.go:121", #[⟨16, .guard⟩], some (16, true)⟩ rfl ?_
     refine wSk 18 ⟨some 49, .load 25 (.tmp 48), 25, "records.go:121", #[⟨17, .data⟩, ⟨16, .guard⟩], some (16, true)⟩ rfl ?_
     refine wSk 19 ⟨some 50, .move (.tmp 5), 3, "records.go:121", #[⟨16, .guard⟩], some (16, true)⟩ rfl ?_
     refine wSk 20 ⟨some 51, .indexAddr 25 (.tmp 49) (.tmp 50), 0, "records.go:121", #[⟨18, .data⟩, ⟨19, .data⟩, ⟨16, .guard⟩], some (16, true)⟩ rfl ?_
     refine wSk 21 ⟨some 52, .fieldAddr 45 (.tmp 51) 1, 0, "records.go:121", #[⟨20, .data⟩, ⟨16, .guard⟩], some (16, true)⟩ rfl ?_
     refine wSk 22 ⟨some 53, .load 3 (.tmp 52), 3, "records.go:121", #[⟨21, .data⟩, ⟨16, .guard⟩], some (16, true)⟩ rfl ?_
     refine wSk 23 ⟨some 54, .fieldAddr 45 (.tmp 3) 1, 0, "records.go:121", #[⟨16, .guard⟩], some (16, true)⟩ rfl ?_
     refine wSk 24 ⟨some 55, .load 3 (.tmp 54), 3, "records.go:121", #[⟨23, .data⟩, ⟨16, .guard⟩], some (16, true)⟩ rfl ?_
     refine wSk 25 ⟨some 56, .binOp .leq 3 (.tmp 53) (.tmp 55) 3, 4, "records.go:121", #[⟨22, .data⟩, ⟨24, .data⟩, ⟨16, .guard⟩], some (16, true)⟩ rfl ?_
     refine wTk 26 ⟨some 57, .pick (.tmp 47) (.tmp 56) (.const (.bool false)), 4, "records.go:121", #[⟨16, .data⟩, ⟨25, .data⟩], none⟩ rfl ?_
     refine wTk 27 ⟨some 4, .assign (.tmp 57), 4, "records.go:121", #[⟨26, .data⟩, ⟨16, .chain⟩, ⟨0, .phase⟩, ⟨1, .phase⟩, ⟨2, .phase⟩, ⟨3, .phase⟩, ⟨4, .phase⟩, ⟨5, .phase⟩, ⟨6, .phase⟩, ⟨7, .phase⟩, ⟨8, .phase⟩, ⟨9, .phase⟩, ⟨10, .phase⟩, ⟨11, .phase⟩, ⟨12, .phase⟩, ⟨13, .phase⟩, ⟨14, .phase⟩, ⟨15, .phase⟩, ⟨16, .phase⟩, ⟨17, .phase⟩, ⟨18, .phase⟩, ⟨19, .phase⟩, ⟨20, .phase⟩, ⟨21, .phase⟩, ⟨22, .phase⟩, ⟨23, .phase⟩, ⟨24, .phase⟩, ⟨25, .phase⟩, ⟨26, .phase⟩], none⟩ rfl ?_
     refine wpAnyH_done (by kernel_rfl) ?_ _
     clear hHeld
     go_wp2_with fail
     go_ret
     exact HE.out _ (below_drew1 w4)
   ·have hlti : ¬ (i : Int) < (p.cn : Int) := by omega
    have HE : Hid (∀ W, Below w4.heap.size w4 W -> GivesB w W (.returned (.bool false)) (spIn p.P ⟨(y : Int), lo, hi⟩)) := fun W hW => ⟨false, rfl, ⟨fun h => (by cases h), fun h => absurd (HI.out.2 h).1 hlt⟩, HBw.out.trans (hW.mono HBw.out.size)⟩
    go_upto_region 4 with fail
    refine wp_region_held_drew (S := fun W => W.cell? ⟨g1, 1, none⟩ = some (.slice p.co p.cn p.cc) /\ W.cell? ⟨g1 + 1, 0, none⟩ = some (.int .i64 (y : Int)) /\ W.cell? ⟨g1 + 1, 1, none⟩ = some (.int .i64 lo)) (by kernel_rfl) (HSu.out _ (below_drew1 w4)) (fun hHeld => ?_)
    refine wTk 0 ⟨some 31, .move (.tmp 5), 3, "records.go:121", #[], none⟩ rfl ?_
    refine wTk 1 ⟨some 32, .fieldAddr 27 (.tmp 2) 1, 0, "records.go:121", #[], none⟩ rfl ?_
    refine wTk 2 ⟨some 33, .load 25 (.tmp 32), 25, "records.go:121", #[⟨1, .data⟩], none⟩ rfl ?_
    refine wTk 3 ⟨some 34, .call ⟨.builtin .len, #[.tmp 33], #[25]⟩, 3, "records.go:121", #[⟨2, .data⟩], none⟩ rfl ?_
    refine wTk 4 ⟨some 35, .binOp .lss 3 (.tmp 31) (.tmp 34) 3, 4, "records.go:121", #[⟨0, .data⟩, ⟨3, .data⟩], none⟩ rfl ?_
    refine wTk 5 ⟨some 36, .move (.tmp 35), 4, "records.go:121", #[⟨4, .data⟩], none⟩ rfl ?_
    refine wSk 6 ⟨some 37, .fieldAddr 27 (.tmp 2) 1, 0, "records.go:121", #[⟨5, .guard⟩], some (5, true)⟩ rfl ?_
    refine wSk 7 ⟨some 38, .load 25 (.tmp 37), 25, "records.go:121", #[⟨6, .data⟩, ⟨5, .guard⟩], some (5, true)⟩ rfl ?_
    refine wSk 8 ⟨some 39, .move (.tmp 5), 3, "records.go:121", #[⟨5, .guard⟩], some (5, true)⟩ rfl ?_
    refine wSk 9 ⟨some 40, .indexAddr 25 (.tmp 38) (.tmp 39), 0, "records.go:121", #[⟨7, .data⟩, ⟨8, .data⟩, ⟨5, .guard⟩], some (5, true)⟩ rfl ?_
    refine wSk 10 ⟨some 41, .fieldAddr 45 (.tmp 40) 0, 0, "records.go:121", #[⟨9, .data⟩, ⟨5, .guard⟩], some (5, true)⟩ rfl ?_
    refine wSk 11 ⟨some 42, .load 3 (.tmp 41), 3, "records.go:121", #[⟨10, .data⟩, ⟨5, .guard⟩], some (5, true)⟩ rfl ?_
    refine wSk 12 ⟨some 43, .fieldAddr 45 (.tmp 3) 0, 0, "records.go:121", #[⟨5, .guard⟩], some (5, true)⟩ rfl ?_
    refine wSk 13 ⟨some 44, .load 3 (.tmp 43), 3, "records.go:121", #[⟨12, .data⟩, ⟨5, .guard⟩], some (5, true)⟩ rfl ?_
    refine wSk 14 ⟨some 45, .binOp .eql 3 (.tmp 42) (.tmp 44) 3, 4, "records.go:121", #[⟨11, .data⟩, ⟨13, .data⟩, ⟨5, .guard⟩], some (5, true)⟩ rfl ?_
    refine wTk 15 ⟨some 46, .pick (.tmp 36) (.tmp 45) (.const (.bool false)), 4, "records.go:121", #[⟨5, .data⟩, ⟨14, .data⟩], none⟩ rfl ?_
    refine wTk 16 ⟨some 47, .move (.tmp 46), 4, "records.go:121", #[⟨15, .data⟩, ⟨5, .chain⟩], none⟩ rfl ?_
    refine wSk 17 ⟨some 48, .fieldAddr 27 (.tmp 2) 1, 0, "records.go:121", #[⟨16, .guard⟩], some (16, true)⟩ rfl ?_
    refine wSk 18 ⟨some 49, .load 25 (.tmp 48), 25, "records.go:121", #[⟨17, .data⟩, ⟨16, .guard⟩], some (16, true)⟩ rfl ?_
    refine wSk 19 ⟨some 50, .move (.tmp 5), 3, "records.go:121", #[⟨16, .guard⟩], some (16, true)⟩ rfl ?_
    refine wSk 20 ⟨some 51, .indexAddr 25 (.tmp 49) (.tmp 50), 0, "records.go:121", #[⟨18, .data⟩, ⟨19, .data⟩, ⟨16, .guard⟩], some (16, true)⟩ rfl ?_
    refine wSk 21 ⟨some 52, .fieldAddr 45 (.tmp 51) 1, 0, "records.go:121", #[⟨20, .data⟩, ⟨16, .guard⟩], some (16, true)⟩ rfl ?_
    refine wSk 22 ⟨some 53, .load 3 (.tmp 52), 3, "records.go:121", #[⟨21, .data⟩, ⟨16, .guard⟩], some (16, true)⟩ rfl ?_
    refine wSk 23 ⟨some 54, .fieldAddr 45 (.tmp 3) 1, 0, "records.go:121", #[⟨16, .guard⟩], some (16, true)⟩ rfl ?_
    refine wSk 24 ⟨some 55, .load 3 (.tmp 54), 3, "records.go:121", #[⟨23, .data⟩, ⟨16, .guard⟩], some (16, true)⟩ rfl ?_
    refine wSk 25 ⟨some 56, .binOp .leq 3 (.tmp 53) (.tmp 55) 3, 4, "records.go:121", #[⟨22, .data⟩, ⟨24, .data⟩, ⟨16, .guard⟩], some (16, true)⟩ rfl ?_
    refine wTk 26 ⟨some 57, .pick (.tmp 47) (.tmp 56) (.const (.bool false)), 4, "records.go:121", #[⟨16, .data⟩, ⟨25, .data⟩], none⟩ rfl ?_
    refine wTk 27 ⟨some 4, .assign (.tmp 57), 4, "records.go:121", #[⟨26, .data⟩, ⟨16, .chain⟩, ⟨0, .phase⟩, ⟨1, .phase⟩, ⟨2, .phase⟩, ⟨3, .phase⟩, ⟨4, .phase⟩, ⟨5, .phase⟩, ⟨6, .phase⟩, ⟨7, .phase⟩, ⟨8, .phase⟩, ⟨9, .phase⟩, ⟨10, .phase⟩, ⟨11, .phase⟩, ⟨12, .phase⟩, ⟨13, .phase⟩, ⟨14, .phase⟩, ⟨15, .phase⟩, ⟨16, .phase⟩, ⟨17, .phase⟩, ⟨18, .phase⟩, ⟨19, .phase⟩, ⟨20, .phase⟩, ⟨21, .phase⟩, ⟨22, .phase⟩, ⟨23, .phase⟩, ⟨24, .phase⟩, ⟨25, .phase⟩, ⟨26, .phase⟩], none⟩ rfl ?_
    refine wpAnyH_done (by kernel_rfl) ?_ _
    clear hHeld
    go_wp2_with fail
    go_ret
    exact HE.out _ (below_drew1 w4)
end
section
open Go.RowKit Go.Maps Go.Sort
structure Hs where
 o : Option Addr
 n : Nat
 c : Nat
def hs0 : Hs := ⟨none, 0, 0⟩
abbrev HsV (s : Hs) : Value := .slice s.o s.n s.c
def RSl (v : Value) : Option (DataW Hs × List MemPlace) :=
 match v with
 | .slice o n c => some (.held ⟨o, n, c⟩, [])
 | _ => none
theorem RSl_of (s : Hs) : RSl (HsV s) = some (.held s, []) := rfl
theorem RSl_inv {v : Value} {s : Hs} {ps : List MemPlace} (h : RSl v = some (.held s, ps)) : v = HsV s := by
 unfold RSl at h
 split at h
 ·simp at h
  obtain ⟨rfl, _⟩ := h
  rfl
 ·simp at h
def MpS (D : DataW Hs) (K : ByteArray -> Prop) (f : ByteArray -> Hs) : Prop := (∀ s : ByteArray, has D (.string s.data.toList) = true ↔ K s) /\ ∀ s : ByteArray, D.atKey (.string s.data.toList) (.held hs0) = .held (f s)
theorem mpS_start : MpS (.map []) (fun _ => False) (fun _ => hs0) := ⟨fun s => by simp [has], fun s => rfl⟩
theorem strS_inj {a b : ByteArray} (h : (Lit.string a.data.toList) = .string b.data.toList) : a = b := by
 cases a; cases b; simp at h; simp [h]
theorem mpS_step {D : DataW Hs} {K : ByteArray -> Prop} {f : ByteArray -> Hs} (h : MpS D K f) (hm : IsMap D) (k : ByteArray) (x : Hs) (g : ByteArray -> Hs) (hg : g k = x) (hf : ∀ s, s ≠ k -> g s = f s) :
  MpS (D.put (.string k.data.toList) (.held x)) (fun s => s = k ∨ K s) g := by
 refine ⟨fun s => ?_, fun s => ?_⟩
 ·by_cases hs : k = s
  ·subst hs
   rw [has_put_same hm (k := .string k.data.toList) (show WideAt.IsKeyLit (.string k.data.toList) from trivial)]
   exact ⟨fun _ => .inl rfl, fun _ => rfl⟩
  ·rw [has_put_other (fun he => hs (strS_inj he).symm), h.1 s]
   exact ⟨fun h => .inr h, fun h => h.resolve_left (fun e => hs e.symm)⟩
 ·by_cases hs : k = s
  ·subst hs
   rw [atKey_put_same hm (k := .string k.data.toList) (show WideAt.IsKeyLit (.string k.data.toList) from trivial), hg]
  ·rw [atKey_put_other (fun he => hs (strS_inj he).symm), h.2 s, hf s (fun e => hs e.symm)]
theorem keysS {P : Program} {k : TypeId} {R : Value -> Option (DataW Hs × List MemPlace)} {w : World} {b n : Nat} {D : DataW Hs} {S : ByteArray -> Prop} {f : ByteArray -> Hs} (hown : w.ownsMap P k R b n D) (K : Keyed P k) (hk : P.underlying k = some .string) (hm : MpS D S f)
  {ss : List (List UInt8)} (hp : ss.Perm (strKeys D)) : ss.Nodup /\ ∀ x : List UInt8, x ∈ ss ↔ S ⟨x.toArray⟩ := by
 obtain ⟨es, hD, hpw, _⟩ := hown.entries K
 obtain ⟨es', hD', hko⟩ := hown.keysOf
 obtain rfl : es = es' := by rw [hD] at hD'; simpa using hD'
 subst hD
 have hks : ∀ p ∈ es, ∃ x, p.1 = .string x := fun p hp => by obtain ⟨v, hv⟩ := hko p hp; obtain ⟨x, _, hx, _⟩ := Maps.keyOf_str hk hv; exact ⟨x, hx⟩
 have hnd : (strKeys (.map es)).Nodup := by
  show (es.map fun p => strOf p.1).Nodup
  refine List.pairwise_map.2 (hpw.imp_of_mem fun {p q} hp' hq' hne e => hne ?_)
  obtain ⟨a, ha⟩ := hks p hp'
  obtain ⟨b, hb⟩ := hks q hq'
  rw [ha, hb] at e ⊢
  exact congrArg _ e
 have hmem : ∀ x, x ∈ strKeys (.map es) ↔ has (.map es) (.string x) = true := fun x => by
  rw [has_eq, List.any_eq_true]
  show x ∈ es.map (fun p => strOf p.1) ↔ _
  rw [List.mem_map]
  constructor
  ·rintro ⟨p, hp', rfl⟩
   obtain ⟨a, ha⟩ := hks p hp'
   exact ⟨p, hp', by rw [ha]; simp [Lit.sameKey, strOf]⟩
  ·rintro ⟨p, hp', hs⟩
   obtain ⟨a, ha⟩ := hks p hp'
   rw [ha] at hs
   exact ⟨p, hp', by rw [ha]; simpa [Lit.sameKey, strOf] using hs⟩
 refine ⟨hp.nodup_iff.2 hnd, fun x => ?_⟩
 rw [hp.mem_iff, hmem x]
 exact hm.1 ⟨x.toArray⟩
end
section
open Go.RowKit Go.Maps Go.Sort
variable {P : Program} {kt et : TypeId} {size B : Nat} {w W W2 : World} {b k : Nat} {K : ByteArray -> Prop} {f : ByteArray -> Hs} {X : ByteArray -> List Value}
structure MRo (P : Program) (kt et : TypeId) (size B : Nat) (w W : World) (b k : Nat) (K : ByteArray -> Prop) (f : ByteArray -> Hs) (X : ByteArray -> List Value) : Prop where
 map : ∃ D, W.ownsMap P kt RSl b k D /\ MpS D K f
 rows : ∀ s, W.ownsRow B et size (HsV (f s)) (f s).n (X s)
 apart : ∀ s t, s ≠ t -> ∀ g, (HsV (f s)).ownBlock = some g -> (HsV (f t)).ownBlock ≠ some g
 below : Below w.heap.size w W
 hb : w.heap.size <= b /\ b < B /\ B <= W.heap.size
theorem MRo.start (w : World) : MRo P kt et size (w.heap.size + 1) w (w.alloc (.map #[] 0)) w.heap.size 0 (fun _ => False) (fun _ => hs0) (fun _ => []) :=
 ⟨⟨_, World.ownsMap_made _ _ _ _, mpS_start⟩, fun _ => World.ownsRow_nil _ _ _ _, fun _ _ _ g h => (by cases h), (Below.refl _ _).alloc (Nat.le_refl _) _, Nat.le_refl _, Nat.lt_succ_self _, by simp⟩
theorem grown_of_below (h : Below W.heap.size W W2) : W.grownBy W2 none := ⟨h.os, h.tape, h.output, h.size, fun k hk _ => h.block k hk⟩
theorem MRo.later (M : MRo P kt et size B w W b k K f X) (h : Below W.heap.size W W2) : MRo P kt et size B w W2 b k K f X := by
 obtain ⟨D, hD, hM⟩ := M.map
 have hlt : b < W.heap.size := by have := M.hb; omega
 refine ⟨⟨D, ?_, hM⟩, fun s => (M.rows s).kept (grown_of_below h) ?_, M.apart, M.below.trans (h.mono M.below.size), M.hb.1, M.hb.2.1, Nat.le_trans M.hb.2.2 h.size⟩
 ·obtain ⟨es, c, h1, h2⟩ := hD
  exact ⟨es, c, (h.block b hlt).trans h1, h2⟩
 ·cases (HsV (f s)).ownBlock with
  | none => exact .inl rfl
  | some g => exact .inr (by simp)
theorem MRo.look (M : MRo P kt et size B w W b k K f X) (hK : Keyed P kt) (hk : P.underlying kt = some .string) {t st : TypeId} (ht : P.underlying t = some (.map kt st)) (hz : (zeroValue st).run P W = .ok (HsV hs0) W) (s : ByteArray) (hs : s.size <= maxLen) :
  (Instr.lookup t (.map (some b)) (.string s) false).run P W = .ok (HsV (f s)) W := by
 obtain ⟨D, hD, hM⟩ := M.map
 obtain ⟨v, ps, hr, hv⟩ := hD.lookup hK ht hz (RSl_of hs0) (Go.WideMaps.keyOf_string_mk hk hs)
 rw [hM.2 s] at hv
 rw [hr, RSl_inv hv]
structure MRm (P : Program) (kt et : TypeId) (size B : Nat) (w W : World) (b k : Nat) (K : ByteArray -> Prop) (f : ByteArray -> Hs) (X : ByteArray -> List Value) (s : ByteArray) (x : Hs) (Y : List Value) : Prop where
 map : ∃ D, W.ownsMap P kt RSl b k D /\ MpS D K f
 row : W.ownsRow B et size (HsV x) x.n Y
 rows : ∀ t, t ≠ s -> W.ownsRow B et size (HsV (f t)) (f t).n (X t)
 apart : ∀ t u, t ≠ u -> ∀ g, (HsV (f t)).ownBlock = some g -> (HsV (f u)).ownBlock ≠ some g
 apartS : ∀ t, t ≠ s -> ∀ g, (HsV (f t)).ownBlock = some g -> (HsV x).ownBlock ≠ some g
 below : Below w.heap.size w W
 hb : w.heap.size <= b /\ b < B /\ B <= W.heap.size
theorem MRo.app (M : MRo P kt et size B w W b k K f X) (s : ByteArray) {st ty : TypeId} {i : TypeInfo} {z : Value} {bytes : Nat} (hst : P.underlying st = some (.slice et)) (hi : P.info? et = some i) (hz : i.zero = some z) (hsize : i.size = size) (hby : i.bytes = bytes) (hzs : z.cells.size = size) (hsz : 0 < size)
  (a : Addr) (c : Nat) (news : List Value) (hl : news.length = size) (hnews : ∀ j u, news[j]? = some u -> W.cell? (a.add j) = some u) (h1 : ∀ u ∈ news, u.oneCell' = true) (h63 : (f s).n + 1 <= maxLen) (hbytes : ((f s).n + 1) * bytes <= 140737488355328) :
  ∃ g c2 W2, (Builtin.append_ #[st, st] ty #[HsV (f s), .slice (some a) 1 c]).run P W = .ok (.slice (some ⟨g, 0, none⟩) ((f s).n + 1) c2) W2 /\ MRm P kt et size B w W2 b k K f X s ⟨some ⟨g, 0, none⟩, (f s).n + 1, c2⟩ (X s ++ news) /\ ∀ q, q < W.heap.size -> (HsV (f s)).ownBlock ≠ some q -> W2.heap[q]? = W.heap[q]? := by
 obtain ⟨v', W2, hrun, hown, hgrow, _, hat⟩ := run_append_own_at (P := P) W B st ty et i z size bytes hst hi hz hsize hby hzs hsz (HsV (f s)) (f s).n (X s) (M.rows s) a 1 c news (by omega) hnews h1 h63 hbytes M.hb.2.2
 rcases hown.2 with ⟨h0, h00⟩ | ⟨g, cap2, cur, hv, hbg, hgg, hnc, hcm, hcsz, htake⟩
 ·omega
 ·subst hv
  obtain ⟨D, hD, hM⟩ := M.map
  have hlt : b < W.heap.size := by have := M.hb; omega
  have hrow : ∀ k, (HsV (f s)).ownBlock = some k -> B <= k := fun k hk => ((M.rows s).lt k hk).1
  refine ⟨g, cap2, W2, hrun, ⟨⟨D, ?_, hM⟩, hown, fun t ht => (M.rows t).kept hgrow ?_, M.apart, fun t ht q hq e => ?_, M.below.grown hgrow M.below.size (fun k hk => by have := hrow k hk; have := M.hb; omega), M.hb.1, M.hb.2.1, Nat.le_trans M.hb.2.2 hgrow.size⟩, fun q hq hn => hgrow.block q hq (fun e => hn e.symm)⟩
  ·obtain ⟨es, c, h1, h2⟩ := hD
   exact ⟨es, c, (hgrow.block b hlt (fun e => by have := hrow b e.symm; have := M.hb; omega)).trans h1, h2⟩
  ·cases ho : (HsV (f t)).ownBlock with
   | none => exact .inl rfl
   | some q => exact .inr (fun e => M.apart t s ht q ho e.symm)
  ·have hq2 := ((M.rows t).lt q hq).2
   rcases hat with h | h
   ·rw [h] at e
    exact M.apart t s ht q hq e
   ·rw [h] at e
    have := Option.some.inj e
    omega
theorem MRm.put {s : ByteArray} {x : Hs} {Y : List Value} (M : MRm P kt et size B w W b k K f X s x Y) (hK : Keyed P kt) (hk : P.underlying kt = some .string) {t st : TypeId} (ht : P.underlying t = some (.map kt st)) (hs : s.size <= maxLen) (hn : k < maxLen) :
  ∃ W2, (Instr.mapUpdate t (.map (some b)) (.string s) (HsV x)).run P W = .ok () W2 /\ MRo P kt et size B w W2 b (k + 1) (fun u => u = s ∨ K u) (fun u => if u = s then x else f u) (fun u => if u = s then Y else X u) /\ ∀ q, q < W.heap.size -> q ≠ b -> W2.heap[q]? = W.heap[q]? := by
 obtain ⟨D, hD, hM⟩ := M.map
 have hmap := hD.isMap
 obtain ⟨W2, hr, ho, hg⟩ := hD.update hK ht hn (Go.WideMaps.keyOf_string_mk hk hs) (RSl_of x)
 have hne : ∀ (v : Value) (n : Nat) (xs : List Value), W.ownsRow B et size v n xs -> v.ownBlock = none ∨ v.ownBlock ≠ some b := fun v n xs h => by
  cases hv : v.ownBlock with
  | none => exact .inl rfl
  | some q => exact .inr (fun e => by have := (h.lt q hv).1; have := M.hb; have := Option.some.inj e; omega)
 refine ⟨W2, hr, ⟨⟨_, ho, mpS_step hM hmap s x _ (if_pos rfl) (fun u hu => if_neg hu)⟩, fun u => ?_, fun u v huv g hg1 => ?_, M.below.grown hg M.below.size (fun j hj => by cases hj; exact M.hb.1), M.hb.1, M.hb.2.1, Nat.le_trans M.hb.2.2 hg.size⟩, fun q hq hn => hg.block q hq (fun e => hn (Option.some.inj e))⟩
 ·by_cases hu : u = s
  ·simp only [if_pos hu]
   exact M.row.kept hg (hne _ _ _ M.row)
  ·simp only [if_neg hu]
   exact (M.rows u hu).kept hg (hne _ _ _ (M.rows u hu))
 ·by_cases hu : u = s
  ·have hv : ¬ v = s := fun e => huv (hu.trans e.symm)
   simp only [if_pos hu, if_neg hv] at hg1 ⊢
   exact fun e => M.apartS v hv g e hg1
  ·by_cases hv : v = s
   ·simp only [if_neg hu, if_pos hv] at hg1 ⊢
    exact M.apartS u hu g hg1
   ·simp only [if_neg hu, if_neg hv] at hg1 ⊢
    exact M.apart u v huv g hg1
theorem step_appM {W W2 : World} {ops : Array Oper} {o : Oper} {a : Act} {K : Act -> World -> Prop} {Q : Exit -> Act -> World -> Prop} {E : Prop} {v1 v2 v' : Value} {st : TypeId} (hgd : o.guard = none) (s x : Operand) (ho : o.op = .call { callee := .builtin .append, args := #[s, x], argTypes := #[st, st] })
  (hs : a.eval s = v1) (hx : a.eval x = v2) (hrun : (Builtin.append_ #[st, st] o.type #[v1, v2]).run P W = .ok v' W2) (hK : K (a.put o.dst v') W2) :
  if Region.wanted o (yielded ops a.tmps) = true then Oper.wp P o a W K Q else E := by
 have hw : Region.wanted o (yielded ops a.tmps) = true := by simp [Region.wanted, hgd]
 rw [if_pos hw]
 unfold Oper.wp
 simp [execOp, ho, resolve, invoke, builtin, hs, hx, hrun, Result.andThen]
 exact hK
theorem seq_appM {W W2 : World} {ops : Array Oper} {rest : List Oper} {o : Oper} {a : Act} {Q : Exit -> Act -> World -> Prop} {v1 v2 v' : Value} {st : TypeId} (hgd : o.guard = none) (s x : Operand) (ho : o.op = .call { callee := .builtin .append, args := #[s, x], argTypes := #[st, st] })
  (hs : a.eval s = v1) (hx : a.eval x = v2) (hrun : (Builtin.append_ #[st, st] o.type #[v1, v2]).run P W = .ok v' W2) (hK : wpList P ops Q rest (a.put o.dst v') W2) : wpList P ops Q (o :: rest) a W :=
 wpList_plain hgd fun K hKK => by
  unfold Oper.wp
  simp [execOp, ho, resolve, invoke, builtin, hs, hx, hrun, Result.andThen]
  exact hKK _ _ hK
end
section
open Go.RowKit Go.Maps Go.Sort
def pvs (L : List Pv) : List Value := (L.map (fun p => (PC p).toList)).flatten
theorem pvs_append (L R : List Pv) : pvs (L ++ R) = pvs L ++ pvs R := by simp [pvs]
theorem pvs_one (p : Pv) : pvs [p] = (PC p).toList := by simp [pvs]
theorem pvs_length (L : List Pv) : (pvs L).length = L.length * 2 := by
 induction L with
 | nil => rfl
 | cons a L ih => have : pvs (a :: L) = (PC a).toList ++ pvs L := rfl; rw [this, List.length_append, ih]; simp [PC]; omega
theorem pvs_at (L : List Pv) (t j : Nat) (ht : t < L.length) (hj : j < 2) : (pvs L)[t * 2 + j]? = (PC L[t]).toList[j]? := by
 induction L generalizing t with
 | nil => simp at ht
 | cons a L ih =>
  have e : pvs (a :: L) = (PC a).toList ++ pvs L := rfl
  cases t with
  | zero => rw [e, List.getElem?_append_left (by simp [PC]; omega)]; simp
  | succ t =>
   rw [e, List.getElem?_append_right (by simp [PC]; omega)]
   have h := ih t (by simpa using ht)
   have e4 : (t + 1) * 2 + j - (PC a).toList.length = t * 2 + j := by simp [PC]; omega
   rw [e4, h]; simp
theorem pvs_cell (p : Pv) : ∀ v ∈ (PC p).toList, v.oneCell' = true := by
 intro v hv; simp [PC] at hv; rcases hv with rfl | rfl <;> rfl
theorem infoPast : (Tryz.prog.info? 27).map (fun i => (i.zero, i.size, i.bytes)) = some (some (.agg #[.slice none 0 0, .slice none 0 0]), 2, 48) := by kernel_rfl
theorem prow_of {W : World} {B : Nat} {h : Hs} {L : List Pv} (hr : W.ownsRow B 27 2 (HsV h) h.n (pvs L)) (hs : ∀ p ∈ L, PSrc W p) : PRow W h.o h.n L := by
 have hl : L.length = h.n := by have := hr.1; rw [pvs_length] at this; omega
 obtain ⟨o, n, c⟩ := h
 rcases hr.2 with ⟨h0, h00⟩ | ⟨g, cap, cur, hv, hbg, hgg, hnc, hcm, hcsz, htake⟩
 ·refine ⟨hl, fun _ => h00, fun ad e t p hp => ?_, hs⟩
  have := (List.getElem?_eq_some_iff.1 hp).1
  omega
 ·simp only [Value.slice.injEq] at hv
  obtain ⟨rfl, -, rfl⟩ := hv
  refine ⟨hl, fun e => (by cases e), fun ad e t p hp => ?_, hs⟩
  obtain rfl : (⟨g, 0, none⟩ : Addr) = ad := Option.some.inj e
  obtain ⟨ht, hpt⟩ := List.getElem?_eq_some_iff.1 hp
  have hc : ∀ j, j < 2 -> W.cell? ⟨g, t * 2 + j, none⟩ = (PC p).toList[j]? := fun j hj => by
   have h1 := World.ownsRow.cellAt hr (t * 2 + j) (by dsimp only at hl ⊢; omega)
   rw [h1, pvs_at L t j ht hj, hpt]
  refine ⟨?_, ?_⟩
  ·rw [Addr.add_lit, Nat.zero_add]
   exact hc 0 (by omega)
  ·rw [Addr.add_lit, Addr.add_lit, Nat.zero_add]
   exact hc 1 (by omega)
theorem mp_app {w W : World} {b B k : Nat} {K : ByteArray -> Prop} {f : ByteArray -> Hs} {X : ByteArray -> List Value} (M : MRo Tryz.prog 9 27 2 B w W b k K f X) (s : ByteArray) (p : Pv) (hn : (f s).n <= 2900000000000) :
  ∃ g c2 W2, (Builtin.append_ #[59, 59] 59 #[HsV (f s), .slice (some ⟨W.heap.size, 0, none⟩) 1 1]).run Tryz.prog (W.alloc (.cells (PC p) 27)) = .ok (.slice (some ⟨g, 0, none⟩) ((f s).n + 1) c2) W2 /\ MRm Tryz.prog 9 27 2 B w W2 b k K f X s ⟨some ⟨g, 0, none⟩, (f s).n + 1, c2⟩ (X s ++ (PC p).toList) /\ ∀ q, q < W.heap.size -> (HsV (f s)).ownBlock ≠ some q -> W2.heap[q]? = W.heap[q]? := by
 obtain ⟨i0, hi, hz0, hz1, hz2⟩ := info_parts infoPast
 obtain ⟨g, c2, W2, h1, h2, h3⟩ := (M.later (below_new W (.cells (PC p) 27))).app s (ty := 59) Tryz.underlying59 hi hz0 hz1 hz2 (by simp [Value.cells]) (by decide) ⟨W.heap.size, 0, none⟩ 1 (PC p).toList rfl (fun j u hj => by
  rw [Addr.add_lit, Nat.zero_add, World.cell?_alloc_new]
  simpa using hj) (pvs_cell p) (by unfold maxLen; omega) (by omega)
 exact ⟨g, c2, W2, h1, h2, fun q hq hn => (h3 q (by simp; omega) hn).trans (Below.heap_alloc W _ q hq)⟩
structure OwnP (B : Nat) (w W : World) (h : Hs) (L : List Pv) : Prop where
 own : W.ownsRow B 27 2 (HsV h) h.n (pvs L)
 src : ∀ p ∈ L, PSrc W p
 below : Below w.heap.size w W
 hB : w.heap.size <= B /\ B <= W.heap.size
theorem OwnP.nil (w : World) : OwnP w.heap.size w w hs0 [] := ⟨World.ownsRow_nil _ _ _ _, fun p h => (by cases h), Below.refl _ _, Nat.le_refl _, Nat.le_refl _⟩
theorem OwnP.later {B : Nat} {w W W2 : World} {h : Hs} {L : List Pv} (O : OwnP B w W h L) (hb : Below W.heap.size W W2) : OwnP B w W2 h L := by
 refine ⟨O.own.kept (grown_of_below hb) ?_, fun p hp => (O.src p hp).below hb, O.below.trans (hb.mono O.below.size), O.hB.1, Nat.le_trans O.hB.2 hb.size⟩
 cases (HsV h).ownBlock with
 | none => exact .inl rfl
 | some g => exact .inr (by simp)
theorem OwnP.row {B : Nat} {w W : World} {h : Hs} {L : List Pv} (O : OwnP B w W h L) : PRow W h.o h.n L := prow_of O.own O.src
end
section
theorem block_of_add (p : Addr) (m : Nat) : (p.add m).block = p.block := block_add p m
theorem add_nought (p : Addr) : p.add 0 = p := add_zero p
end
section
open Go.RowKit
variable {w w' : World} {g : Nat}
structure RecV where
 sku : ByteArray
 veco : Option Addr
 vecn : Nat
 vecc : Nat
 cloudo : Option Addr
 cloudn : Nat
 cloudc : Nat
def re0 : RecV := ⟨⟨#[]⟩, none, 0, 0, none, 0, 0⟩
def ReC (m : RecV) : Array Value := #[.string m.sku, .slice m.veco m.vecn m.vecc, .slice m.cloudo m.cloudn m.cloudc]
abbrev ReV (m : RecV) : Value := .agg (ReC m)
theorem ReC_size (m : RecV) : (ReC m).size = 3 := rfl
theorem ReC_one (m : RecV) : ∀ v ∈ (ReC m).toList, v.oneCell' = true := by
 intro v hv; simp [ReC] at hv; rcases hv with rfl | rfl | rfl <;> rfl
theorem cells_ReV (m : RecV) : (ReV m).cells = ReC m := by simp [Value.cells]
structure ReAt (w : World) (a : Addr) (m : RecV) : Prop where
 c0 : w.cell? a = some (.string m.sku)
 c1 : w.cell? (a.add 1) = some (.slice m.veco m.vecn m.vecc)
 c2 : w.cell? (a.add 2) = some (.slice m.cloudo m.cloudn m.cloudc)
theorem ReAt.on {a : Addr} {m : RecV} (S : ReAt w a m) (hb : Below w.heap.size w w') : ReAt w' a m := by
 have h0 := World.block_lt_of_cell? _ _ S.c0
 exact ⟨by rw [hb.cell h0]; exact S.c0, by rw [hb.cell (by rw [block_of_add]; exact h0)]; exact S.c1, by rw [hb.cell (by rw [block_of_add]; exact h0)]; exact S.c2⟩
def ReBox (w : World) (g : Nat) (m : RecV) : Prop := w.heap[g]? = some (.cells (ReC m) 43 (0, 0))
theorem ReBox.lt {m : RecV} (h : ReBox w g m) : g < w.heap.size := (Array.getElem?_eq_some_iff.1 h).1
theorem ReBox.below {m : RecV} (h : ReBox w g m) (hb : Below w.heap.size w w') : ReBox w' g m := (hb.block g h.lt).trans h
theorem ReBox.c0 {m : RecV} (h : ReBox w g m) : w.cell? ⟨g, 0, none⟩ = some (.string m.sku) := by unfold ReBox at h; simp [World.cell?, h, ReC]
theorem ReBox.c1 {m : RecV} (h : ReBox w g m) : w.cell? ⟨g, 1, none⟩ = some (.slice m.veco m.vecn m.vecc) := by unfold ReBox at h; simp [World.cell?, h, ReC]
theorem ReBox.c2 {m : RecV} (h : ReBox w g m) : w.cell? ⟨g, 2, none⟩ = some (.slice m.cloudo m.cloudn m.cloudc) := by unfold ReBox at h; simp [World.cell?, h, ReC]
theorem ReBox_new (w : World) (m : RecV) : ReBox (w.alloc (.cells (ReC m) 43)) w.heap.size m := by unfold ReBox; rw [heap_alloc_new]
def ldRe (v : Value) : Sem Value := Instr.loadAt 43 v
theorem ldRe_eq (v : Value) : Instr.loadAt 43 v = ldRe v := rfl
def stRe (p v : Value) : Sem Unit := Instr.storeAt 43 p v
theorem stRe_eq (p v : Value) : Instr.storeAt 43 p v = stRe p v := rfl
theorem sizeRe : (Tryz.prog.info? 43).map (·.size) = some 3 := by kernel_rfl
theorem ReBox.range {m : RecV} (h : ReBox w g m) : w.rangeAt g 0 (ReC m).toList := by
 intro j v hv
 rw [Nat.zero_add]
 unfold ReBox at h
 simp only [Array.getElem?_toList] at hv
 simp [World.cell?, h, hv]
theorem run_lvRe {m : RecV} (A : ReBox w g m) : (loadVar 43 ⟨g, 0, none⟩).run Tryz.prog w = .ok (ReV m) w := by
 have := run_loadVar_mid (P := Tryz.prog) w g 0 43 (ReC m).toList _ A.range Tryz.underlying43 rfl (by rw [sizeRe]; rfl)
 simpa using this
theorem run_ldRe {m : RecV} (A : ReBox w g m) : (ldRe (.pointer (some ⟨g, 0, none⟩))).run Tryz.prog w = .ok (.agg (ReC m)) w := by
 unfold ldRe
 simp only [Instr.loadAt, Instr.sureAddr, Sem.run_bind, Sem.run_pure, Result.andThen]
 exact run_lvRe A
theorem run_laRe {a : Addr} {m : RecV} (A : ReAt w a m) : (ldRe (.pointer (some a))).run Tryz.prog w = .ok (.agg (ReC m)) w := by
 have hl := run_loadCells_list (P := Tryz.prog) (w := w) a (ReC m).toList (fun j v hv => by
  match j, hv with
  | 0, hv => cases hv; rw [add_nought]; exact A.c0
  | 1, hv => cases hv; exact A.c1
  | 2, hv => cases hv; exact A.c2
  | j + 3, hv => simp [ReC] at hv)
 unfold ldRe
 simp only [Instr.loadAt, Instr.sureAddr, Sem.run_bind, Sem.run_pure, Result.andThen]
 cases hq : Tryz.prog.info? 43 with
 | none => have := sizeRe; simp [hq] at this
 | some x =>
  have hs : x.size = 3 := by have := sizeRe; simpa [hq] using this
  have hagg : (isAgg 43).run Tryz.prog w = .ok true w := by
   unfold isAgg
   rw [Sem.run_bind, run_underlying Tryz.underlying43 w]
   rfl
  have e2 : (ReC m).toList.length = 3 := rfl
  rw [e2] at hl
  simp [loadVar, Sem.run_bind, hagg, sizeOf, typeInfo, hq, hs, hl]
theorem run_stRe {m m' : RecV} (A : ReBox w g m) : (stRe (.pointer (some ⟨g, 0, none⟩)) (.agg (ReC m'))).run Tryz.prog w = .ok () (w.setRow g (ReC m')) := by
 unfold stRe
 have h := run_storeCells_from (P := Tryz.prog) g 43 (ReC m').toList 0 (ReC m) w A (by simp [ReC]) (ReC_one m')
 cases hq : Tryz.prog.info? 43 with
 | none => have := sizeRe; simp [hq] at this
 | some x =>
  have hs : x.size = 3 := by have := sizeRe; simpa [hq] using this
  simp only [Instr.storeAt, Instr.sureAddr, Sem.run_bind, Sem.run_pure, Result.andThen, storeVar, sizeOf, typeInfo, cells_ReV, ReC_size]
  simp at h
  simp [h, hq, hs]
theorem ReBox.setRow {m m' : RecV} (A : ReBox w g m) : ReBox (w.setRow g (ReC m')) g m' := setRow_heap w g _ _ _ _ A
theorem madeRe (w : World) (m : RecV) (g : Nat) (hg : w.heap.size = g) : ∃ w' : World, (stRe (.pointer (some ⟨g, 0, none⟩)) (.agg (ReC m))).run Tryz.prog (w.alloc (.cells (ReC re0) 43)) = .ok () w' /\ ReBox w' g m /\ Below w.heap.size w w' /\ w'.heap.size = w.heap.size + 1 := by
 subst hg
 refine ⟨_, run_stRe (ReBox_new w _), (ReBox_new w _).setRow, below_setRow (below_new w _) (Nat.le_refl _), by simp [World.setRow]⟩
theorem res1Re {m : RecV} {fn : Func} {p : Tmp} (h : fn.results = #[.cell p 43]) {tmps : Array Value} (hp : tmps.getD p undef = .pointer (some ⟨g, 0, none⟩)) (A : ReBox w g m) :
  (results fn tmps).run Tryz.prog w = .ok (ReV m) w := by
 have hl := run_lvRe A
 simp only [results, h]
 rw [Array.getD_eq_getD_getElem?] at hp
 simp [hp, asAddr, hl]
structure FacV where
 addso : Option Addr
 addsn : Nat
 addsc : Nat
 veco : Option Addr
 vecn : Nat
 vecc : Nat
 cloudo : Option Addr
 cloudn : Nat
 cloudc : Nat
 recso : Option Addr
 recsn : Nat
 recsc : Nat
def fa0 : FacV := ⟨none, 0, 0, none, 0, 0, none, 0, 0, none, 0, 0⟩
def FaC (m : FacV) : Array Value := #[.slice m.addso m.addsn m.addsc, .slice m.veco m.vecn m.vecc, .slice m.cloudo m.cloudn m.cloudc, .slice m.recso m.recsn m.recsc]
abbrev FaV (m : FacV) : Value := .agg (FaC m)
structure FaAt (w : World) (a : Addr) (m : FacV) : Prop where
 c0 : w.cell? a = some (.slice m.addso m.addsn m.addsc)
 c1 : w.cell? (a.add 1) = some (.slice m.veco m.vecn m.vecc)
 c2 : w.cell? (a.add 2) = some (.slice m.cloudo m.cloudn m.cloudc)
 c3 : w.cell? (a.add 3) = some (.slice m.recso m.recsn m.recsc)
end
section
open Go.RowKit

def cntF (n : Nat) (l : Array Bool) : Nat := (List.range n).countP (fun i => !l.getD i true)
theorem countP_less {p q : Nat -> Bool} {i : Nat} : ∀ {xs : List Nat}, (∀ j, q j = true -> p j = true) -> i ∈ xs -> p i = true -> q i = false -> xs.countP q < xs.countP p
 | [], _, h, _, _ => by cases h
 | x :: xs, hpq, h, hp, hq => by
  have hle : xs.countP q <= xs.countP p := List.countP_mono_left (fun j _ => hpq j)
  rcases List.mem_cons.1 h with rfl | h
  ·rw [List.countP_cons_of_neg (by simp [hq]), List.countP_cons_of_pos (by simp [hp])]; omega
  ·have := countP_less hpq h hp hq
   rw [List.countP_cons, List.countP_cons]
   have hx := hpq x
   cases hqx : q x with
   | true => simp [hx hqx]; exact this
   | false => cases p x <;> simp <;> omega
theorem ready_mem {md : Region.Mode} {ops : Array Oper} {l : Array Bool} {i : Nat} (h : i ∈ Region.ready md ops l) : i < ops.size /\ l.getD i true = false /\ ∀ o, ops[i]? = some o -> ∀ e ∈ o.after, Region.binds md e = true -> l.getD e.on false = true := by
 unfold Region.ready at h
 rw [List.mem_filter, List.mem_range] at h
 obtain ⟨h1, h2⟩ := h
 simp only [Bool.and_eq_true, Bool.not_eq_true'] at h2
 refine ⟨h1, h2.1, fun o ho e he hb => ?_⟩
 have h3 := h2.2
 rw [ho] at h3
 simp only [Option.map_some, Option.getD_some] at h3
 have := Array.all_eq_true'.1 h3 e he
 simpa [hb] using this
theorem ready_nil {md : Region.Mode} {ops : Array Oper} {l : Array Bool} (h : cntF ops.size l = 0) : Region.ready md ops l = [] := by
 unfold Region.ready
 rw [List.filter_eq_nil_iff]
 intro i hi
 have := List.countP_eq_zero.1 h i hi
 simp at this
 simp [this]
theorem wpAny_inv {P : Program} {md : Region.Mode} {ops : Array Oper} {Q : Exit -> Act -> World -> Prop} (I : Array Bool -> Act -> World -> Prop) (hz : ∀ l a w, I l a w -> l.size = ops.size)
  (hs : ∀ l a w, I l a w -> ∀ i, i ∈ Region.ready md ops l -> wpOp P ops Q i (fun a' w' => I (l.setIfInBounds i true) a' w') a w)
  (he : ∀ l a w, I l a w -> Region.ready md ops l = [] -> Q .normal a w) :
  ∀ (fuel : Nat) (l : Array Bool) (a : Act) (w : World), I l a w -> cntF ops.size l <= fuel -> wpAny P md ops Q fuel l a w
 | 0, l, a, w, h, hf => ⟨ready_nil (by omega), he l a w h (ready_nil (by omega))⟩
 | fuel + 1, l, a, w, h, hf => by
  refine ⟨he l a w h, fun i hi => wpOp_mono (fun a' w' h' => ?_) (hs l a w h i hi)⟩
  refine wpAny_inv I hz hs he fuel _ a' w' h' ?_
  obtain ⟨h1, h2, _⟩ := ready_mem hi
  have hl := hz l a w h
  have : cntF ops.size (l.setIfInBounds i true) < cntF ops.size l := by
   unfold cntF
   refine countP_less (i := i) (fun j hj => ?_) (List.mem_range.2 h1) (by simp only [h2]; rfl) ?_
   ·by_cases e : i = j
    ·subst e
     simp [Array.getD, hl, h1] at hj
    ·simpa [Array.getD_eq_getD_getElem?, Array.getElem?_setIfInBounds, e] using hj
   ·simp [Array.getD, hl, h1]
  omega
theorem wp_region_inv {P : Program} {ops : Array Oper} {Q : Exit -> Act -> World -> Prop} {id : Nat} {a : Act} {w : World} (hm : P.follows .mixedOrders = true) (I : Array Bool -> Act -> World -> Prop) (h0 : I (Array.replicate ops.size false) a w.drew) (hz : ∀ l a w, I l a w -> l.size = ops.size)
  (hs : ∀ l a w, I l a w -> ∀ i, i ∈ Region.ready .any ops l -> wpOp P ops Q i (fun a' w' => I (l.setIfInBounds i true) a' w') a w)
  (he : ∀ l a w, I l a w -> Region.ready .any ops l = [] -> Q .normal a w) : (Code.region id ops true).wp P Q a w :=
 wp_region_any hm (wpAny_inv I hz hs he _ _ _ _ h0 (by unfold cntF; have := List.countP_le_length (p := fun i => !(Array.replicate ops.size false).getD i true) (l := List.range ops.size); simpa using this))
def backward (ops : Array Oper) : Bool := (List.range ops.size).all fun i => ((ops[i]?).map fun o => o.after.all fun e => !Region.binds .any e || decide (e.on < i)).getD true
theorem ready_done {ops : Array Oper} {l : Array Bool} (hb : backward ops = true) (hz : l.size = ops.size) (h : Region.ready .any ops l = []) : ∀ i, i < ops.size -> l.getD i false = true := by
 intro i
 induction i using Nat.strongRecOn with
 | _ i ih =>
  intro hi
  unfold Region.ready at h
  rw [List.filter_eq_nil_iff] at h
  have h1 := h i (List.mem_range.2 hi)
  have h2 := List.all_eq_true.1 hb i (List.mem_range.2 hi)
  rw [Array.getElem?_eq_getElem hi] at h1 h2
  simp only [Option.map_some, Option.getD_some] at h1 h2
  have h3 : (ops[i].after.all fun e => !Region.binds .any e || l.getD e.on false) = true := by
   rw [Array.all_eq_true']
   intro e he
   have := Array.all_eq_true'.1 h2 e he
   cases hb : Region.binds .any e with
   | false => simp
   | true =>
    simp only [hb, Bool.not_true, Bool.false_or, decide_eq_true_eq] at this
    rw [ih e.on this (by omega)]
    simp
  rw [h3] at h1
  have hl : i < l.size := by omega
  simp [Array.getD, hl] at h1 ⊢
  exact h1
theorem set_same {l : Array Bool} {i : Nat} (h : i < l.size) : (l.setIfInBounds i true).getD i false = true := by simp [Array.getD, h]
theorem set_other {l : Array Bool} {i j : Nat} (h : i ≠ j) : (l.setIfInBounds i true).getD j false = l.getD j false := by simp [Array.getD_eq_getD_getElem?, h]
theorem no_true {l : Array Bool} {i : Nat} (h : l.getD i true = false) : l.getD i false = false := by
 rw [Array.getD_eq_getD_getElem?] at h ⊢
 cases hq : l[i]? with
 | none => rw [hq] at h; cases h
 | some x => rw [hq] at h; exact h
theorem rep_false (n i : Nat) : (Array.replicate n false).getD i false = false := by
 rw [Array.getD_eq_getD_getElem?, Array.getElem?_replicate]; split <;> rfl
end
section
open Go.RowKit

abbrev ptr (g : Nat) : Value := .pointer (some ⟨g, 0, none⟩)
def sl00 : Nat -> Sl := fun _ => sl0
structure TwoI (wk : World) (pa pb : Pv) (l : Array Bool) (W : World) (va xa ca vb xb cb ba bb : Value) : Prop where
 sz : l.size = 10
 b : Below wk.heap.size wk W
 h0 : l.getD 0 false = true -> va = PV pa
 h1 : l.getD 1 false = true -> l.getD 8 false = false -> ∃ g, xa = .slice (some ⟨g, 0, none⟩) 1 1 /\ PRow W (some ⟨g, 0, none⟩) 1 [pa]
 h2 : l.getD 2 false = true -> ∃ F, ca = SAv F /\ RowsIn wk.heap.size W F (runsOf [pa]) /\ (l.getD 6 false = true -> ∀ g, ba = ptr g -> FarS F g) /\ (l.getD 7 false = true -> ∀ g, bb = ptr g -> FarS F g)
 h3 : l.getD 3 false = true -> vb = PV pb
 h4 : l.getD 4 false = true -> l.getD 8 false = false -> ∃ g, xb = .slice (some ⟨g, 0, none⟩) 1 1 /\ PRow W (some ⟨g, 0, none⟩) 1 [pb]
 h5 : l.getD 5 false = true -> ∃ F, cb = SAv F /\ RowsIn wk.heap.size W F (runsOf [pb]) /\ (l.getD 6 false = true -> ∀ g, ba = ptr g -> FarS F g) /\ (l.getD 7 false = true -> ∀ g, bb = ptr g -> FarS F g)
 h6 : l.getD 6 false = true -> ∃ g, ba = ptr g /\ wk.heap.size <= g /\ g < W.heap.size /\ (l.getD 8 false = false -> Sets W g sl00) /\ (l.getD 8 false = true -> ∀ F, ca = SAv F -> Sets W g F)
 h7 : l.getD 7 false = true -> ∃ g, bb = ptr g /\ wk.heap.size <= g /\ g < W.heap.size /\ (l.getD 9 false = false -> Sets W g sl00) /\ (l.getD 9 false = true -> ∀ F, cb = SAv F -> Sets W g F)
 h67 : l.getD 6 false = true -> l.getD 7 false = true -> ba ≠ bb
 c8 : l.getD 8 false = true -> l.getD 2 false = true /\ l.getD 5 false = true /\ l.getD 6 false = true /\ l.getD 7 false = true
 c9 : l.getD 9 false = true -> l.getD 5 false = true /\ l.getD 7 false = true
section
variable {wk : World} {pa pb : Pv} {l : Array Bool} {W W' : World} {va xa ca vb xb cb ba bb : Value}
theorem SA_inj {F G : Nat -> Sl} (h : SAv F = SAv G) : SA F = SA G := by injection h
theorem Sets.same {w : World} {g : Nat} {F G : Nat -> Sl} (h : Sets w g F) (e : SAv G = SAv F) : Sets w g G := by unfold Sets at h ⊢; rw [SA_inj e]; exact h
theorem FarS.lo {lo : Nat} {F : Nat -> Sl} {G : Nat -> List Rn} (h : RowsIn lo W F G) {g : Nat} (hg : g < lo) : FarS F g := fun r hr ad e => by have := h.lo r hr ad e; omega
theorem FarS.hi {lo : Nat} {F : Nat -> Sl} {G : Nat -> List Rn} (h : RowsIn lo W F G) : FarS F W.heap.size := fun r hr ad e => by have := h.hi r hr ad e; omega
theorem ptr_inj {g g' : Nat} (h : ptr g = ptr g') : g = g' := by simpa [ptr] using h
theorem TwoI.on (T : TwoI wk pa pb l W va xa ca vb xb cb ba bb) (hb : Below W.heap.size W W') : TwoI wk pa pb l W' va xa ca vb xb cb ba bb := by
 refine ⟨T.sz, T.b.trans (hb.mono T.b.size), T.h0, fun h h' => ?_, fun h => ?_, T.h3, fun h h' => ?_, fun h => ?_, fun h => ?_, fun h => ?_, T.h67, T.c8, T.c9⟩
 ·obtain ⟨g, e, R⟩ := T.h1 h h'; exact ⟨g, e, R.below hb⟩
 ·obtain ⟨F, e, R, f⟩ := T.h2 h; exact ⟨F, e, R.below hb, f⟩
 ·obtain ⟨g, e, R⟩ := T.h4 h h'; exact ⟨g, e, R.below hb⟩
 ·obtain ⟨F, e, R, f⟩ := T.h5 h; exact ⟨F, e, R.below hb, f⟩
 ·obtain ⟨g, e, h1, h2, h3, h4⟩ := T.h6 h; exact ⟨g, e, h1, Nat.lt_of_lt_of_le h2 hb.size, fun q => (h3 q).below hb, fun q F e => (h4 q F e).below hb⟩
 ·obtain ⟨g, e, h1, h2, h3, h4⟩ := T.h7 h; exact ⟨g, e, h1, Nat.lt_of_lt_of_le h2 hb.size, fun q => (h3 q).below hb, fun q F e => (h4 q F e).below hb⟩
theorem TwoI.s0 (T : TwoI wk pa pb l W va xa ca vb xb cb ba bb) : TwoI wk pa pb (l.setIfInBounds 0 true) W (PV pa) xa ca vb xb cb ba bb := by
 refine ⟨by simpa using T.sz, T.b, fun _ => rfl, ?_, ?_, ?_, ?_, ?_, ?_, ?_, ?_, ?_, ?_⟩ <;> simp only [set_other (show (0 : Nat) ≠ 1 by decide), set_other (show (0 : Nat) ≠ 2 by decide), set_other (show (0 : Nat) ≠ 3 by decide), set_other (show (0 : Nat) ≠ 4 by decide), set_other (show (0 : Nat) ≠ 5 by decide), set_other (show (0 : Nat) ≠ 6 by decide), set_other (show (0 : Nat) ≠ 7 by decide), set_other (show (0 : Nat) ≠ 8 by decide), set_other (show (0 : Nat) ≠ 9 by decide)]
 ·exact T.h1
 ·exact T.h2
 ·exact T.h3
 ·exact T.h4
 ·exact T.h5
 ·exact T.h6
 ·exact T.h7
 ·exact T.h67
 ·exact fun h => by have := T.c8 h; simp [this]
 ·exact fun h => by have := T.c9 h; simp [this]
theorem TwoI.s3 (T : TwoI wk pa pb l W va xa ca vb xb cb ba bb) : TwoI wk pa pb (l.setIfInBounds 3 true) W va xa ca (PV pb) xb cb ba bb := by
 refine ⟨by simpa using T.sz, T.b, ?_, ?_, ?_, fun _ => rfl, ?_, ?_, ?_, ?_, ?_, ?_, ?_⟩ <;> simp only [set_other (show (3 : Nat) ≠ 0 by decide), set_other (show (3 : Nat) ≠ 1 by decide), set_other (show (3 : Nat) ≠ 2 by decide), set_other (show (3 : Nat) ≠ 4 by decide), set_other (show (3 : Nat) ≠ 5 by decide), set_other (show (3 : Nat) ≠ 6 by decide), set_other (show (3 : Nat) ≠ 7 by decide), set_other (show (3 : Nat) ≠ 8 by decide), set_other (show (3 : Nat) ≠ 9 by decide)]
 ·exact T.h0
 ·exact T.h1
 ·exact T.h2
 ·exact T.h4
 ·exact T.h5
 ·exact T.h6
 ·exact T.h7
 ·exact T.h67
 ·exact fun h => by have := T.c8 h; simp [this]
 ·exact fun h => by have := T.c9 h; simp [this]
theorem TwoI.s1 (T : TwoI wk pa pb l W va xa ca vb xb cb ba bb) (hS : PSrc W pa) : TwoI wk pa pb (l.setIfInBounds 1 true) (W.alloc (.cells (PC pa) 27)) va (.slice (some ⟨W.heap.size, 0, none⟩) 1 1) ca vb xb cb ba bb := by
 have T := T.on (below_new W (.cells (PC pa) 27))
 refine ⟨by simpa using T.sz, T.b, ?_, fun _ _ => ⟨_, rfl, prow_one W pa hS⟩, ?_, ?_, ?_, ?_, ?_, ?_, ?_, ?_, ?_⟩ <;> simp only [set_other (show (1 : Nat) ≠ 0 by decide), set_other (show (1 : Nat) ≠ 2 by decide), set_other (show (1 : Nat) ≠ 3 by decide), set_other (show (1 : Nat) ≠ 4 by decide), set_other (show (1 : Nat) ≠ 5 by decide), set_other (show (1 : Nat) ≠ 6 by decide), set_other (show (1 : Nat) ≠ 7 by decide), set_other (show (1 : Nat) ≠ 8 by decide), set_other (show (1 : Nat) ≠ 9 by decide)]
 ·exact T.h0
 ·exact T.h2
 ·exact T.h3
 ·exact T.h4
 ·exact T.h5
 ·exact T.h6
 ·exact T.h7
 ·exact T.h67
 ·exact fun h => by have := T.c8 h; simp [this]
 ·exact fun h => by have := T.c9 h; simp [this]
theorem TwoI.s4 (T : TwoI wk pa pb l W va xa ca vb xb cb ba bb) (hS : PSrc W pb) : TwoI wk pa pb (l.setIfInBounds 4 true) (W.alloc (.cells (PC pb) 27)) va xa ca vb (.slice (some ⟨W.heap.size, 0, none⟩) 1 1) cb ba bb := by
 have T := T.on (below_new W (.cells (PC pb) 27))
 refine ⟨by simpa using T.sz, T.b, ?_, ?_, ?_, ?_, fun _ _ => ⟨_, rfl, prow_one W pb hS⟩, ?_, ?_, ?_, ?_, ?_, ?_⟩ <;> simp only [set_other (show (4 : Nat) ≠ 0 by decide), set_other (show (4 : Nat) ≠ 1 by decide), set_other (show (4 : Nat) ≠ 2 by decide), set_other (show (4 : Nat) ≠ 3 by decide), set_other (show (4 : Nat) ≠ 5 by decide), set_other (show (4 : Nat) ≠ 6 by decide), set_other (show (4 : Nat) ≠ 7 by decide), set_other (show (4 : Nat) ≠ 8 by decide), set_other (show (4 : Nat) ≠ 9 by decide)]
 ·exact T.h0
 ·exact T.h1
 ·exact T.h2
 ·exact T.h3
 ·exact T.h5
 ·exact T.h6
 ·exact T.h7
 ·exact T.h67
 ·exact fun h => by have := T.c8 h; simp [this]
 ·exact fun h => by have := T.c9 h; simp [this]
theorem TwoI.s2 (T : TwoI wk pa pb l W va xa ca vb xb cb ba bb) (h8 : l.getD 8 false = false) {F : Nat -> Sl} (R : RowsIn W.heap.size W' F (runsOf [pa])) (hb : Below W.heap.size W W') : TwoI wk pa pb (l.setIfInBounds 2 true) W' va xa (SAv F) vb xb cb ba bb := by
 have hl := T.b.size
 have T' := T.on hb
 have f6 : l.getD 6 false = true -> ∀ g, ba = ptr g -> FarS F g := fun h g e => by
  obtain ⟨g', e', _, h2, _⟩ := T.h6 h
  obtain rfl := ptr_inj (e.symm.trans e')
  exact FarS.lo R h2
 have f7 : l.getD 7 false = true -> ∀ g, bb = ptr g -> FarS F g := fun h g e => by
  obtain ⟨g', e', _, h2, _⟩ := T.h7 h
  obtain rfl := ptr_inj (e.symm.trans e')
  exact FarS.lo R h2
 refine ⟨by simpa using T.sz, T'.b, ?_, ?_, ?_, ?_, ?_, ?_, ?_, ?_, ?_, ?_, ?_⟩ <;> simp only [set_same (show 2 < l.size by rw [T.sz]; decide), set_other (show (2 : Nat) ≠ 0 by decide), set_other (show (2 : Nat) ≠ 1 by decide), set_other (show (2 : Nat) ≠ 3 by decide), set_other (show (2 : Nat) ≠ 4 by decide), set_other (show (2 : Nat) ≠ 5 by decide), set_other (show (2 : Nat) ≠ 6 by decide), set_other (show (2 : Nat) ≠ 7 by decide), set_other (show (2 : Nat) ≠ 8 by decide), set_other (show (2 : Nat) ≠ 9 by decide)]
 ·exact T'.h0
 ·exact T'.h1
 ·exact fun _ => ⟨F, rfl, ⟨R.src, R.eq, fun r hr ad e => Nat.le_trans hl (R.lo r hr ad e), R.hi⟩, f6, f7⟩
 ·exact T'.h3
 ·exact T'.h4
 ·exact T'.h5
 ·intro h
  obtain ⟨g, e, h1, h2, h3, _⟩ := T'.h6 h
  exact ⟨g, e, h1, h2, h3, fun q => absurd q (by rw [h8]; decide)⟩
 ·exact T'.h7
 ·exact T'.h67
 ·exact fun h => by have := T.c8 h; simp [this]
 ·exact fun h => by have := T.c9 h; simp [this]
theorem TwoI.s5 (T : TwoI wk pa pb l W va xa ca vb xb cb ba bb) (h9 : l.getD 9 false = false) {F : Nat -> Sl} (R : RowsIn W.heap.size W' F (runsOf [pb])) (hb : Below W.heap.size W W') : TwoI wk pa pb (l.setIfInBounds 5 true) W' va xa ca vb xb (SAv F) ba bb := by
 have hl := T.b.size
 have T' := T.on hb
 have f6 : l.getD 6 false = true -> ∀ g, ba = ptr g -> FarS F g := fun h g e => by
  obtain ⟨g', e', _, h2, _⟩ := T.h6 h
  obtain rfl := ptr_inj (e.symm.trans e')
  exact FarS.lo R h2
 have f7 : l.getD 7 false = true -> ∀ g, bb = ptr g -> FarS F g := fun h g e => by
  obtain ⟨g', e', _, h2, _⟩ := T.h7 h
  obtain rfl := ptr_inj (e.symm.trans e')
  exact FarS.lo R h2
 refine ⟨by simpa using T.sz, T'.b, ?_, ?_, ?_, ?_, ?_, ?_, ?_, ?_, ?_, ?_, ?_⟩ <;> simp only [set_same (show 5 < l.size by rw [T.sz]; decide), set_other (show (5 : Nat) ≠ 0 by decide), set_other (show (5 : Nat) ≠ 1 by decide), set_other (show (5 : Nat) ≠ 2 by decide), set_other (show (5 : Nat) ≠ 3 by decide), set_other (show (5 : Nat) ≠ 4 by decide), set_other (show (5 : Nat) ≠ 6 by decide), set_other (show (5 : Nat) ≠ 7 by decide), set_other (show (5 : Nat) ≠ 8 by decide), set_other (show (5 : Nat) ≠ 9 by decide)]
 ·exact T'.h0
 ·exact T'.h1
 ·exact T'.h2
 ·exact T'.h3
 ·exact T'.h4
 ·exact fun _ => ⟨F, rfl, ⟨R.src, R.eq, fun r hr ad e => Nat.le_trans hl (R.lo r hr ad e), R.hi⟩, f6, f7⟩
 ·exact T'.h6
 ·intro h
  obtain ⟨g, e, h1, h2, h3, _⟩ := T'.h7 h
  exact ⟨g, e, h1, h2, h3, fun q => absurd q (by rw [h9]; decide)⟩
 ·exact T'.h67
 ·exact fun h => by have := T.c8 h; simp [this]
 ·exact fun h => by have := T.c9 h; simp [this]
theorem TwoI.s6 (T : TwoI wk pa pb l W va xa ca vb xb cb ba bb) (h8 : l.getD 8 false = false) : TwoI wk pa pb (l.setIfInBounds 6 true) (W.alloc (.cells (SA sl00) 69)) va xa ca vb xb cb (ptr W.heap.size) bb := by
 have hl := T.b.size
 have T' := T.on (below_new W (.cells (SA sl00) 69))
 have n7 : l.getD 7 false = true -> ptr W.heap.size ≠ bb := fun h e => by
  obtain ⟨g', e', _, h2, _⟩ := T.h7 h
  have := ptr_inj (e.trans e')
  omega
 refine ⟨by simpa using T.sz, T'.b, ?_, ?_, ?_, ?_, ?_, ?_, ?_, ?_, ?_, ?_, ?_⟩ <;> simp only [set_same (show 6 < l.size by rw [T.sz]; decide), set_other (show (6 : Nat) ≠ 0 by decide), set_other (show (6 : Nat) ≠ 1 by decide), set_other (show (6 : Nat) ≠ 2 by decide), set_other (show (6 : Nat) ≠ 3 by decide), set_other (show (6 : Nat) ≠ 4 by decide), set_other (show (6 : Nat) ≠ 5 by decide), set_other (show (6 : Nat) ≠ 7 by decide), set_other (show (6 : Nat) ≠ 8 by decide), set_other (show (6 : Nat) ≠ 9 by decide)]
 ·exact T'.h0
 ·exact T'.h1
 ·intro h
  obtain ⟨F, e, R, _, f7⟩ := T.h2 h
  exact ⟨F, e, R.below (below_new _ _), fun _ g eg => by obtain rfl := ptr_inj eg; exact FarS.hi R, f7⟩
 ·exact T'.h3
 ·exact T'.h4
 ·intro h
  obtain ⟨F, e, R, _, f7⟩ := T.h5 h
  exact ⟨F, e, R.below (below_new _ _), fun _ g eg => by obtain rfl := ptr_inj eg; exact FarS.hi R, f7⟩
 ·exact fun _ => ⟨_, rfl, hl, by simp, fun _ => sets_new W sl00, fun q => absurd q (by rw [h8]; decide)⟩
 ·exact T'.h7
 ·exact fun _ => n7
 ·exact fun h => by have := T.c8 h; simp [this]
 ·exact fun h => by have := T.c9 h; simp [this]
theorem TwoI.s7 (T : TwoI wk pa pb l W va xa ca vb xb cb ba bb) (h9 : l.getD 9 false = false) : TwoI wk pa pb (l.setIfInBounds 7 true) (W.alloc (.cells (SA sl00) 69)) va xa ca vb xb cb ba (ptr W.heap.size) := by
 have hl := T.b.size
 have T' := T.on (below_new W (.cells (SA sl00) 69))
 have n6 : l.getD 6 false = true -> ba ≠ ptr W.heap.size := fun h e => by
  obtain ⟨g', e', _, h2, _⟩ := T.h6 h
  have := ptr_inj (e.symm.trans e')
  omega
 refine ⟨by simpa using T.sz, T'.b, ?_, ?_, ?_, ?_, ?_, ?_, ?_, ?_, ?_, ?_, ?_⟩ <;> simp only [set_same (show 7 < l.size by rw [T.sz]; decide), set_other (show (7 : Nat) ≠ 0 by decide), set_other (show (7 : Nat) ≠ 1 by decide), set_other (show (7 : Nat) ≠ 2 by decide), set_other (show (7 : Nat) ≠ 3 by decide), set_other (show (7 : Nat) ≠ 4 by decide), set_other (show (7 : Nat) ≠ 5 by decide), set_other (show (7 : Nat) ≠ 6 by decide), set_other (show (7 : Nat) ≠ 8 by decide), set_other (show (7 : Nat) ≠ 9 by decide)]
 ·exact T'.h0
 ·exact T'.h1
 ·intro h
  obtain ⟨F, e, R, f6, _⟩ := T.h2 h
  exact ⟨F, e, R.below (below_new _ _), f6, fun _ g eg => by obtain rfl := ptr_inj eg; exact FarS.hi R⟩
 ·exact T'.h3
 ·exact T'.h4
 ·intro h
  obtain ⟨F, e, R, f6, _⟩ := T.h5 h
  exact ⟨F, e, R.below (below_new _ _), f6, fun _ g eg => by obtain rfl := ptr_inj eg; exact FarS.hi R⟩
 ·exact T'.h6
 ·exact fun _ => ⟨_, rfl, hl, by simp, fun _ => sets_new W sl00, fun q => absurd q (by rw [h9]; decide)⟩
 ·exact fun h _ => n6 h
 ·exact fun h => by have := T.c8 h; simp [this]
 ·exact fun h => by have := T.c9 h; simp [this]
theorem TwoI.s8 (T : TwoI wk pa pb l W va xa ca vb xb cb ba bb) (h2 : l.getD 2 false = true) (h5 : l.getD 5 false = true) (h6 : l.getD 6 false = true) (h7 : l.getD 7 false = true) (h8 : l.getD 8 false = false) :
  ∃ F g, ca = SAv F /\ ba = ptr g /\ Sets W g sl00 /\ TwoI wk pa pb (l.setIfInBounds 8 true) (W.setRow g (SA F)) va xa ca vb xb cb ba bb := by
 obtain ⟨F, eF, RF, f6, f7⟩ := T.h2 h2
 obtain ⟨g, eg, g1, g2, g3, _⟩ := T.h6 h6
 refine ⟨F, g, eF, eg, g3 h8, ?_⟩
 have hz : ∀ cs : Array Value, (W.setRow g cs).heap.size = W.heap.size := fun cs => by simp [World.setRow]
 refine ⟨by simpa using T.sz, below_setRow T.b g1, ?_, ?_, ?_, ?_, ?_, ?_, ?_, ?_, ?_, ?_, ?_⟩ <;> simp only [set_same (show 8 < l.size by rw [T.sz]; decide), set_other (show (8 : Nat) ≠ 0 by decide), set_other (show (8 : Nat) ≠ 1 by decide), set_other (show (8 : Nat) ≠ 2 by decide), set_other (show (8 : Nat) ≠ 3 by decide), set_other (show (8 : Nat) ≠ 4 by decide), set_other (show (8 : Nat) ≠ 5 by decide), set_other (show (8 : Nat) ≠ 6 by decide), set_other (show (8 : Nat) ≠ 7 by decide), set_other (show (8 : Nat) ≠ 9 by decide)]
 ·exact T.h0
 ·exact fun _ h => by cases h
 ·exact fun h => ⟨F, eF, RF.off (f6 h6 g eg) _, f6, f7⟩
 ·exact T.h3
 ·exact fun _ h => by cases h
 ·intro h
  obtain ⟨G, eG, RG, k6, k7⟩ := T.h5 h
  exact ⟨G, eG, RG.off (k6 h6 g eg) _, k6, k7⟩
 ·exact fun _ => ⟨g, eg, g1, by rw [hz]; exact g2, fun h => (by cases h), fun _ F' e' => ((g3 h8).setRow (F' := F)).same (e'.symm.trans eF)⟩
 ·intro h
  obtain ⟨g', e', k1, k2, k3, k4⟩ := T.h7 h
  have hne : g' ≠ g := fun e => T.h67 h6 h (by rw [eg, e', e])
  exact ⟨g', e', k1, by rw [hz]; exact k2, fun q => (setRow_other _ _ _ _ hne).trans (k3 q), fun q G eG => (setRow_other _ _ _ _ hne).trans (k4 q G eG)⟩
 ·exact T.h67
 ·exact fun _ => by simp [h2, h5, h6, h7]
 ·exact fun h => by have := T.c9 h; simp [this]
theorem TwoI.s9 (T : TwoI wk pa pb l W va xa ca vb xb cb ba bb) (h5 : l.getD 5 false = true) (h7 : l.getD 7 false = true) (h8 : l.getD 8 false = true) (h9 : l.getD 9 false = false) :
  ∃ F g, cb = SAv F /\ bb = ptr g /\ Sets W g sl00 /\ TwoI wk pa pb (l.setIfInBounds 9 true) (W.setRow g (SA F)) va xa ca vb xb cb ba bb := by
 obtain ⟨F, eF, RF, f6, f7⟩ := T.h5 h5
 obtain ⟨g, eg, g1, g2, g3, _⟩ := T.h7 h7
 refine ⟨F, g, eF, eg, g3 h9, ?_⟩
 have hz : ∀ cs : Array Value, (W.setRow g cs).heap.size = W.heap.size := fun cs => by simp [World.setRow]
 refine ⟨by simpa using T.sz, below_setRow T.b g1, ?_, ?_, ?_, ?_, ?_, ?_, ?_, ?_, ?_, ?_, ?_⟩ <;> simp only [set_same (show 9 < l.size by rw [T.sz]; decide), set_other (show (9 : Nat) ≠ 0 by decide), set_other (show (9 : Nat) ≠ 1 by decide), set_other (show (9 : Nat) ≠ 2 by decide), set_other (show (9 : Nat) ≠ 3 by decide), set_other (show (9 : Nat) ≠ 4 by decide), set_other (show (9 : Nat) ≠ 5 by decide), set_other (show (9 : Nat) ≠ 6 by decide), set_other (show (9 : Nat) ≠ 7 by decide), set_other (show (9 : Nat) ≠ 8 by decide)]
 ·exact T.h0
 ·exact fun _ h => by rw [h8] at h; cases h
 ·intro h
  obtain ⟨G, eG, RG, k6, k7⟩ := T.h2 h
  exact ⟨G, eG, RG.off (k7 h7 g eg) _, k6, k7⟩
 ·exact T.h3
 ·exact fun _ h => by rw [h8] at h; cases h
 ·exact fun h => ⟨F, eF, RF.off (f7 h7 g eg) _, f6, f7⟩
 ·intro h
  obtain ⟨g', e', k1, k2, k3, k4⟩ := T.h6 h
  have hne : g' ≠ g := fun e => T.h67 h h7 (by rw [eg, e', e])
  exact ⟨g', e', k1, by rw [hz]; exact k2, fun q => (setRow_other _ _ _ _ hne).trans (k3 q), fun q G eG => (setRow_other _ _ _ _ hne).trans (k4 q G eG)⟩
 ·exact fun _ => ⟨g, eg, g1, by rw [hz]; exact g2, fun h => (by cases h), fun _ F' e' => ((g3 h9).setRow (F' := F)).same (e'.symm.trans eF)⟩
 ·exact T.h67
 ·exact fun h => by have := T.c8 h; simp [this]
 ·exact fun _ => by simp [h5, h7]
theorem TwoI.all (T : TwoI wk pa pb l W va xa ca vb xb cb ba bb) (h : ∀ i, i < 10 -> l.getD i false = true) :
  ∃ F G g g', va = PV pa /\ vb = PV pb /\ ca = SAv F /\ cb = SAv G /\ ba = ptr g /\ bb = ptr g' /\ g ≠ g' /\ wk.heap.size <= g /\ wk.heap.size <= g' /\ Sets W g F /\ Sets W g' G /\ RowsIn wk.heap.size W F (runsOf [pa]) /\ RowsIn wk.heap.size W G (runsOf [pb]) /\ FarS F g /\ FarS G g /\ Below wk.heap.size wk W := by
 obtain ⟨F, eF, RF, f6, _⟩ := T.h2 (h 2 (by decide))
 obtain ⟨G, eG, RG, k6, _⟩ := T.h5 (h 5 (by decide))
 obtain ⟨g, eg, g1, _, _, g4⟩ := T.h6 (h 6 (by decide))
 obtain ⟨g', eg', g1', _, _, g4'⟩ := T.h7 (h 7 (by decide))
 exact ⟨F, G, g, g', T.h0 (h 0 (by decide)), T.h3 (h 3 (by decide)), eF, eG, eg, eg', fun e => T.h67 (h 6 (by decide)) (h 7 (by decide)) (by rw [eg, eg', e]), g1, g1', g4 (h 8 (by decide)) F eF, g4' (h 9 (by decide)) G eG, RF, RG, f6 (h 6 (by decide)) g eg, k6 (h 6 (by decide)) g eg, T.b⟩
theorem TwoI.start (wk : World) (pa pb : Pv) (va xa ca vb xb cb ba bb : Value) : TwoI wk pa pb (Array.replicate 10 false) wk.drew va xa ca vb xb cb ba bb := by
 refine ⟨by simp, below_drew1 wk, ?_, ?_, ?_, ?_, ?_, ?_, ?_, ?_, ?_, ?_, ?_⟩ <;> simp only [rep_false] <;> (intro h; cases h)
end
end
section
open Go.RowKit

def PFar (p : Pv) (g : Nat) : Prop := (0 < p.vn -> ∀ ad, p.vo = some ad -> ad.block ≠ g) /\ (0 < p.cn -> ∀ ad, p.co = some ad -> ad.block ≠ g)
theorem PFar.new {n g : Nat} {p : Pv} (h : PNew n p) (hg : g < n) : PFar p g := ⟨fun _ ad e => by have := h.1 ad e; omega, fun _ ad e => by have := h.2 ad e; omega⟩
theorem PFar.old {W : World} {p : Pv} (h : PSrc W p) {g : Nat} (hg : W.heap.size <= g) : PFar p g := by
 refine ⟨fun hn ad e he => ?_, fun hn ad e he => ?_⟩
 ·have := World.block_lt_of_cell? _ _ (h.vec.2.2 ad e 0 hn)
  rw [block_add] at this
  omega
 ·have := World.block_lt_of_cell? _ _ (h.cloud.cell ad e 0 hn).c0
  rw [block_add] at this
  omega
theorem PSrc.far {W W' : World} {p : Pv} (h : PSrc W p) {g : Nat} (hf : PFar p g) (hk : ∀ q, q ≠ g -> W'.heap[q]? = W.heap[q]?) : PSrc W' p := by
 have ev : ∀ ad, p.vo = some ad -> 0 < p.vn -> ∀ m, W'.cell? (ad.add m) = W.cell? (ad.add m) := fun ad e hn m => by unfold World.cell?; rw [block_add, hk _ (hf.1 hn ad e)]
 have ec : ∀ ad, p.co = some ad -> 0 < p.cn -> ∀ m, W'.cell? (ad.add m) = W.cell? (ad.add m) := fun ad e hn m => by unfold World.cell?; rw [block_add, hk _ (hf.2 hn ad e)]
 refine ⟨⟨h.vec.1, h.vec.2.1, fun ad e t ht => by rw [ev ad e (by omega)]; exact h.vec.2.2 ad e t ht⟩, ⟨h.cloud.len, h.cloud.nil, fun ad e t ht => ?_, h.cloud.big, h.cloud.cap⟩, h.big⟩
 have A := h.cloud.cell ad e t ht
 have e' := ec ad e (by omega)
 exact ⟨by rw [e']; exact A.c0, by have := A.c1; rw [add_add] at this ⊢; rw [e']; exact this, by have := A.c2; rw [add_add] at this ⊢; rw [e']; exact this⟩
theorem PV_inj {p q : Pv} (h : PV p = PV q) : PC p = PC q := by injection h
theorem PBox.same {w : World} {g : Nat} {p q : Pv} (h : PBox w g p) (e : PV q = PV p) : PBox w g q := by unfold PBox at h ⊢; rw [PV_inj e]; exact h
abbrev vat (vs : List Value) (i : Nat) : Value := vs.getD i undef
structure BI (n st : Nat) (wk : World) (Φ : Nat -> Value -> World -> Prop) (late : List Nat) (RL : List (Nat × (Pst -> Prop))) (AL : List (Nat × Nat × Nat)) (l : Array Bool) (W : World) (vs : List Value) : Prop where
 sz : l.size = n
 ln : vs.length = n
 b : Below wk.heap.size wk W
 h : ∀ i, i < n -> l.getD i false = true -> (i ∈ late -> l.getD st false = false) -> Φ i (vat vs i) W
 r : ∀ x, x ∈ RL -> l.getD x.1 false = true -> ∃ p, vat vs x.1 = PV p /\ PSrc W p /\ x.2 p.P /\ ∀ y, y ∈ AL -> l.getD y.1 false = true -> ∀ g, vat vs y.1 = ptr g -> PFar p g
 a : ∀ y, y ∈ AL -> l.getD y.1 false = true -> ∃ g, vat vs y.1 = ptr g /\ wk.heap.size <= g /\ g < W.heap.size /\ (l.getD y.2.1 false = false -> PBox W g pv0) /\ (l.getD y.2.1 false = true -> ∀ p, vat vs y.2.2 = PV p -> PBox W g p)
 d : ∀ y z, y ∈ AL -> z ∈ AL -> y.1 ≠ z.1 -> l.getD y.1 false = true -> l.getD z.1 false = true -> vat vs y.1 ≠ vat vs z.1
 c : ∀ y, y ∈ AL -> l.getD y.2.1 false = true -> l.getD y.1 false = true /\ l.getD y.2.2 false = true /\ l.getD st false = true
def Mono (Φ : Nat -> Value -> World -> Prop) : Prop := ∀ i x W W', Φ i x W -> Below W.heap.size W W' -> Φ i x W'
section
variable {n st : Nat} {wk : World} {Φ : Nat -> Value -> World -> Prop} {late : List Nat} {RL : List (Nat × (Pst -> Prop))} {AL : List (Nat × Nat × Nat)} {l : Array Bool} {W W' : World} {vs : List Value}
theorem vat_same {i : Nat} {v : Value} (h : i < vs.length) : vat (vs.set i v) i = v := by simp [vat, List.getD, h]
theorem vat_other {i j : Nat} {v : Value} (h : i ≠ j) : vat (vs.set i v) j = vat vs j := by simp [vat, List.getD, h]
theorem BI.on (hm : Mono Φ) (T : BI n st wk Φ late RL AL l W vs) (hb : Below W.heap.size W W') : BI n st wk Φ late RL AL l W' vs := by
 refine ⟨T.sz, T.ln, T.b.trans (hb.mono T.b.size), fun i h1 h2 h3 => hm _ _ _ _ (T.h i h1 h2 h3) hb, fun x hx hl => ?_, fun y hy hl => ?_, T.d, T.c⟩
 ·obtain ⟨p, e, S, q, f⟩ := T.r x hx hl; exact ⟨p, e, S.below hb, q, f⟩
 ·obtain ⟨g, e, h1, h2, h3, h4⟩ := T.a y hy hl; exact ⟨g, e, h1, Nat.lt_of_lt_of_le h2 hb.size, fun q => (h3 q).below hb, fun q p e => (h4 q p e).below hb⟩
theorem BI.plain (hm : Mono Φ) (T : BI n st wk Φ late RL AL l W vs) (hb : Below W.heap.size W W') (i : Nat) (hi : i < n) (hl : l.getD i false = false) (v : Value) (hΦ : Φ i v W') (h1 : ∀ x, x ∈ RL -> x.1 ≠ i) (h2 : ∀ y, y ∈ AL -> y.1 ≠ i /\ y.2.1 ≠ i) (h3 : st ≠ i) : BI n st wk Φ late RL AL (l.setIfInBounds i true) W' (vs.set i v) := by
 have T := T.on hm hb
 have hi' : i < vs.length := by rw [T.ln]; exact hi
 have hil : i < l.size := by rw [T.sz]; exact hi
 have st' : (l.setIfInBounds i true).getD st false = l.getD st false := set_other (fun e => h3 e.symm)
 refine ⟨by simpa using T.sz, by simpa using T.ln, T.b, fun j hj hlj hlt => ?_, fun x hx hlx => ?_, fun y hy hly => ?_, fun y z hy hz hne hly hlz => ?_, fun y hy hls => ?_⟩
 ·by_cases e : i = j
  ·subst e; rw [vat_same hi']; exact hΦ
  ·rw [vat_other e]; rw [set_other e] at hlj; rw [st'] at hlt; exact T.h j hj hlj hlt
 ·have hx1 : i ≠ x.1 := fun e => h1 x hx e.symm
  rw [set_other hx1] at hlx
  rw [vat_other hx1]
  obtain ⟨p, e, S, q, f⟩ := T.r x hx hlx
  refine ⟨p, e, S, q, fun y hy hly => ?_⟩
  have hy1 : i ≠ y.1 := fun e => (h2 y hy).1 e.symm
  rw [set_other hy1] at hly
  rw [vat_other hy1]
  exact f y hy hly
 ·have hy1 : i ≠ y.1 := fun e => (h2 y hy).1 e.symm
  have hy2 : i ≠ y.2.1 := fun e => (h2 y hy).2 e.symm
  rw [set_other hy1] at hly
  rw [vat_other hy1, set_other hy2]
  obtain ⟨g, e, g1, g2, g3, g4⟩ := T.a y hy hly
  refine ⟨g, e, g1, g2, g3, fun hs => ?_⟩
  have hy3 : i ≠ y.2.2 := fun e => by
   have := (T.c y hy hs).2.1
   rw [<- e, hl] at this
   cases this
  rw [vat_other hy3]
  exact g4 hs
 ·have hy1 : i ≠ y.1 := fun e => (h2 y hy).1 e.symm
  have hz1 : i ≠ z.1 := fun e => (h2 z hz).1 e.symm
  rw [set_other hy1] at hly
  rw [set_other hz1] at hlz
  rw [vat_other hy1, vat_other hz1]
  exact T.d y z hy hz hne hly hlz
 ·have hy1 : i ≠ y.1 := fun e => (h2 y hy).1 e.symm
  have hy2 : i ≠ y.2.1 := fun e => (h2 y hy).2 e.symm
  rw [set_other hy2] at hls
  have hc := T.c y hy hls
  rw [set_other hy1, st']
  refine ⟨hc.1, ?_, hc.2.2⟩
  by_cases e : i = y.2.2
  ·rw [<- e]; exact set_same hil
  ·rw [set_other e]; exact hc.2.1
theorem BI.make (hm : Mono Φ) (T : BI n st wk Φ late RL AL l W vs) (i s c : Nat) (hi : i < n) (hl : l.getD i false = false) (_ : (i, s, c) ∈ AL) (hu : ∀ y, y ∈ AL -> y.1 = i -> y = (i, s, c)) (h1 : ∀ x, x ∈ RL -> x.1 ≠ i) (h2 : ∀ y, y ∈ AL -> y.2.1 ≠ i /\ y.2.2 ≠ i) (hΦ : ∀ v U, Φ i v U) (h3 : st ≠ i) : BI n st wk Φ late RL AL (l.setIfInBounds i true) (W.alloc (.cells (PC pv0) 27)) (vs.set i (ptr W.heap.size)) := by
 have T' := T.on hm (below_new W (.cells (PC pv0) 27))
 have hi' : i < vs.length := by rw [T.ln]; exact hi
 have hil : i < l.size := by rw [T.sz]; exact hi
 have st' : (l.setIfInBounds i true).getD st false = l.getD st false := set_other (fun e => h3 e.symm)
 refine ⟨by simpa using T.sz, by simpa using T.ln, T'.b, fun j hj hlj hlt => ?_, fun x hx hlx => ?_, fun y hy hly => ?_, fun y z hy hz hne hly hlz => ?_, fun y hy hls => ?_⟩
 ·by_cases e : i = j
  ·subst e; exact hΦ _ _
  ·rw [vat_other e]; rw [set_other e] at hlj; rw [st'] at hlt; exact T'.h j hj hlj hlt
 ·have hx1 : i ≠ x.1 := fun e => h1 x hx e.symm
  rw [set_other hx1] at hlx
  rw [vat_other hx1]
  obtain ⟨p, e, S, q, f⟩ := T.r x hx hlx
  refine ⟨p, e, S.below (below_new _ _), q, fun y hy hly g eg => ?_⟩
  by_cases e1 : i = y.1
  ·rw [<- e1, vat_same hi'] at eg
   obtain rfl := ptr_inj eg
   exact PFar.old S (Nat.le_refl _)
  ·rw [set_other e1] at hly
   rw [vat_other e1] at eg
   exact f y hy hly g eg
 ·by_cases e1 : i = y.1
  ·obtain rfl := hu y hy e1.symm
   refine ⟨W.heap.size, by rw [vat_same hi'], T.b.size, by simp, fun _ => pbox_new W pv0, fun hs => ?_⟩
   rw [set_other (fun e => (h2 _ hy).1 e.symm)] at hs
   have := (T.c _ hy hs).1
   rw [hl] at this
   cases this
  ·have hy2 : i ≠ y.2.1 := fun e => (h2 y hy).1 e.symm
   rw [set_other e1] at hly
   rw [vat_other e1, set_other hy2, vat_other (fun e => (h2 y hy).2 e.symm)]
   exact T'.a y hy hly
 ·by_cases e1 : i = y.1
  ·have e2 : i ≠ z.1 := fun e => hne (by rw [<- e1, <- e])
   rw [set_other e2] at hlz
   rw [<- e1, vat_same hi', vat_other e2]
   obtain ⟨g, e, _, g2, _⟩ := T.a z hz hlz
   intro h
   have := ptr_inj (h.trans e)
   omega
  ·rw [set_other e1] at hly
   rw [vat_other e1]
   by_cases e2 : i = z.1
   ·rw [<- e2, vat_same hi']
    obtain ⟨g, e, _, g2, _⟩ := T.a y hy hly
    intro h
    have := ptr_inj (h.symm.trans e)
    omega
   ·rw [set_other e2] at hlz
    rw [vat_other e2]
    exact T.d y z hy hz hne hly hlz
 ·have hy2 : i ≠ y.2.1 := fun e => (h2 y hy).1 e.symm
  rw [set_other hy2] at hls
  have hc := T.c y hy hls
  rw [st', set_other (fun e => (h2 y hy).2 e.symm)]
  refine ⟨?_, hc.2⟩
  by_cases e : i = y.1
  ·rw [<- e]; exact set_same hil
  ·rw [set_other e]; exact hc.1
theorem BI.fill (T : BI n st wk Φ late RL AL l W vs) (i s c : Nat) (p : Pv) (hs : s < n) (hl : l.getD s false = false) (hA : (i, s, c) ∈ AL) (hu : ∀ y, y ∈ AL -> y.2.1 = s -> y = (i, s, c)) (hk : ∀ y, y ∈ AL -> y.1 = i -> y = (i, s, c)) (di : l.getD i false = true) (dc : l.getD c false = true) (dst : s = st ∨ l.getD st false = true) (hp : vat vs c = PV p) (h1 : ∀ x, x ∈ RL -> x.1 ≠ s) (h2 : ∀ y, y ∈ AL -> y.1 ≠ s /\ y.2.2 ≠ s)
  (hm : ∀ j x U U', j ∉ late -> Φ j x U -> Φ j x U') (hΦ : ∀ v U, Φ s v U) (v : Value) :
  ∃ g, vat vs i = ptr g /\ PBox W g pv0 /\ BI n st wk Φ late RL AL (l.setIfInBounds s true) (W.setRow g (PC p)) (vs.set s v) := by
 obtain ⟨g, eg, g1, g2, g3, _⟩ := T.a _ hA di
 have hi' : s < vs.length := by rw [T.ln]; exact hs
 have hsl : s < l.size := by rw [T.sz]; exact hs
 have hst : (l.setIfInBounds s true).getD st false = true := by
  by_cases e : s = st
  ·rw [<- e]; exact set_same hsl
  ·rw [set_other e]; exact dst.resolve_left e
 have hz : (W.setRow g (PC p)).heap.size = W.heap.size := by simp [World.setRow]
 have hother : ∀ q, q ≠ g -> (W.setRow g (PC p)).heap[q]? = W.heap[q]? := fun q hq => setRow_other _ _ _ _ hq
 refine ⟨g, eg, g3 hl, by simpa using T.sz, by simpa using T.ln, below_setRow T.b g1, fun j hj hlj hlt => ?_, fun x hx hlx => ?_, fun y hy hly => ?_, fun y z hy hz' hne hly hlz => ?_, fun y hy hls => ?_⟩
 ·by_cases e : s = j
  ·subst e; exact hΦ _ _
  ·have hjl : j ∉ late := fun hm' => by have := hlt hm'; rw [hst] at this; cases this
   rw [vat_other e]
   rw [set_other e] at hlj
   exact hm j _ W _ hjl (T.h j hj hlj (fun hm' => absurd hm' hjl))
 ·have hx1 : s ≠ x.1 := fun e => h1 x hx e.symm
  rw [set_other hx1] at hlx
  rw [vat_other hx1]
  obtain ⟨p', e', S', q', f⟩ := T.r x hx hlx
  refine ⟨p', e', S'.far (f _ hA di g eg) hother, q', fun y hy hly => ?_⟩
  have hy1 : s ≠ y.1 := fun e => (h2 y hy).1 e.symm
  rw [set_other hy1] at hly
  rw [vat_other hy1]
  exact f y hy hly
 ·have hy1 : s ≠ y.1 := fun e => (h2 y hy).1 e.symm
  rw [set_other hy1] at hly
  rw [vat_other hy1, vat_other (fun e => (h2 y hy).2 e.symm)]
  by_cases e : y.1 = i
  ·obtain rfl := hk y hy e
   refine ⟨g, eg, g1, by rw [hz]; exact g2, fun h => ?_, fun _ q hq => ?_⟩
   ·rw [set_same hsl] at h; cases h
   ·have : PBox (W.setRow g (PC p)) g p := setRow_heap _ _ _ _ _ _ (g3 hl)
    exact this.same (hq.symm.trans hp)
  ·obtain ⟨g', eg', k1, k2, k3, k4⟩ := T.a y hy hly
   have hne : g' ≠ g := fun h => T.d y _ hy hA (by exact e) hly di (by rw [eg', h]; exact eg.symm)
   have hy2 : s ≠ y.2.1 := fun h => by have := hu y hy h.symm; rw [this] at e; exact e rfl
   rw [set_other hy2]
   exact ⟨g', eg', k1, by rw [hz]; exact k2, fun q => (hother _ hne).trans (k3 q), fun q p' e' => (hother _ hne).trans (k4 q p' e')⟩
 ·have hy1 : s ≠ y.1 := fun e => (h2 y hy).1 e.symm
  have hz1 : s ≠ z.1 := fun e => (h2 z hz').1 e.symm
  rw [set_other hy1] at hly
  rw [set_other hz1] at hlz
  rw [vat_other hy1, vat_other hz1]
  exact T.d y z hy hz' hne hly hlz
 ·have hy1 : s ≠ y.1 := fun e => (h2 y hy).1 e.symm
  have hy3 : s ≠ y.2.2 := fun e => (h2 y hy).2 e.symm
  rw [set_other hy1, set_other hy3]
  by_cases e : s = y.2.1
  ·obtain rfl := hu y hy e.symm
   exact ⟨di, dc, hst⟩
  ·rw [set_other e] at hls
   have := T.c y hy hls
   exact ⟨this.1, this.2.1, hst⟩
theorem BI.start (n st : Nat) (wk : World) (Φ : Nat -> Value -> World -> Prop) (late : List Nat) (RL : List (Nat × (Pst -> Prop))) (AL : List (Nat × Nat × Nat)) (vs : List Value) (h : vs.length = n) : BI n st wk Φ late RL AL (Array.replicate n false) wk.drew vs := by
 refine ⟨by simp, h, below_drew1 wk, ?_, ?_, ?_, ?_, ?_⟩ <;> simp only [rep_false]
 ·intro i _ h; cases h
 ·intro x _ h; cases h
 ·intro y _ h; cases h
 ·intro y z _ _ _ h; cases h
 ·intro y _ h; cases h
end
end
section
open Go.RowKit
attribute [local go_sem ↓] ldP_eq stP_eq
attribute [local go_sem] zero_PC cells_PV fold_PC PC_size fold_PC1
section
variable {n st : Nat} {wk : World} {Φ : Nat -> Value -> World -> Prop} {late : List Nat} {RL : List (Nat × (Pst -> Prop))} {AL : List (Nat × Nat × Nat)} {l : Array Bool} {W W' : World} {vs : List Value}
theorem BI.callF (hm : Mono Φ) (T : BI n st wk Φ late RL AL l W vs) (hb : Below W.heap.size W W') (i : Nat) (S : Pst -> Prop) (hi : i < n) (hl : l.getD i false = false) (_ : (i, S) ∈ RL) (hu : ∀ x, x ∈ RL -> x.1 = i -> x.2 = S) (p : Pv) (hS : PSrc W' p) (hF : ∀ g, wk.heap.size <= g -> g < W.heap.size -> PFar p g) (hp : S p.P) (hΦ : ∀ v U, Φ i v U) (h2 : ∀ y, y ∈ AL -> y.1 ≠ i /\ y.2.1 ≠ i) (h3 : st ≠ i) : BI n st wk Φ late RL AL (l.setIfInBounds i true) W' (vs.set i (PV p)) := by
 have T' := T.on hm hb
 have hi' : i < vs.length := by rw [T.ln]; exact hi
 have hil : i < l.size := by rw [T.sz]; exact hi
 have st' : (l.setIfInBounds i true).getD st false = l.getD st false := set_other (fun e => h3 e.symm)
 refine ⟨by simpa using T.sz, by simpa using T.ln, T'.b, fun j hj hlj hlt => ?_, fun x hx hlx => ?_, fun y hy hly => ?_, fun y z hy hz hne hly hlz => ?_, fun y hy hls => ?_⟩
 ·by_cases e : i = j
  ·subst e; exact hΦ _ _
  ·rw [vat_other e]; rw [set_other e] at hlj; rw [st'] at hlt; exact T'.h j hj hlj hlt
 ·by_cases e : i = x.1
  ·have e2 := hu x hx e.symm
   refine ⟨p, by rw [<- e, vat_same hi'], hS, by rw [e2]; exact hp, fun y hy hly g eg => ?_⟩
   have hy1 : i ≠ y.1 := fun e => (h2 y hy).1 e.symm
   rw [set_other hy1] at hly
   rw [vat_other hy1] at eg
   obtain ⟨g', e', g1, g2, _⟩ := T.a y hy hly
   obtain rfl := ptr_inj (eg.symm.trans e')
   exact hF _ g1 g2
  ·rw [set_other e] at hlx
   rw [vat_other e]
   obtain ⟨p', e', S', q', f⟩ := T'.r x hx hlx
   refine ⟨p', e', S', q', fun y hy hly => ?_⟩
   have hy1 : i ≠ y.1 := fun e => (h2 y hy).1 e.symm
   rw [set_other hy1] at hly
   rw [vat_other hy1]
   exact f y hy hly
 ·have hy1 : i ≠ y.1 := fun e => (h2 y hy).1 e.symm
  have hy2 : i ≠ y.2.1 := fun e => (h2 y hy).2 e.symm
  rw [set_other hy1] at hly
  rw [vat_other hy1, set_other hy2]
  obtain ⟨g, e, g1, g2, g3, g4⟩ := T'.a y hy hly
  refine ⟨g, e, g1, g2, g3, fun hs => ?_⟩
  have hy3 : i ≠ y.2.2 := fun e => by
   have := (T.c y hy hs).2.1
   rw [<- e, hl] at this
   cases this
  rw [vat_other hy3]
  exact g4 hs
 ·have hy1 : i ≠ y.1 := fun e => (h2 y hy).1 e.symm
  have hz1 : i ≠ z.1 := fun e => (h2 z hz).1 e.symm
  rw [set_other hy1] at hly
  rw [set_other hz1] at hlz
  rw [vat_other hy1, vat_other hz1]
  exact T.d y z hy hz hne hly hlz
 ·have hy1 : i ≠ y.1 := fun e => (h2 y hy).1 e.symm
  have hy2 : i ≠ y.2.1 := fun e => (h2 y hy).2 e.symm
  rw [set_other hy2] at hls
  have hc := T.c y hy hls
  rw [set_other hy1, st']
  refine ⟨hc.1, ?_, hc.2.2⟩
  by_cases e : i = y.2.2
  ·rw [<- e]; exact set_same hil
  ·rw [set_other e]; exact hc.2.1
end
def GivesF (w w' : World) (e : Ending) (p : Pv) (Q : Pst -> Prop) : Prop := ∃ q : Pv, e = .returned (PV q) /\ PSrc w' q /\ (q = p ∨ PNew w.heap.size q) /\ Below w.heap.size w w' /\ Q q.P
theorem formed_any (a : Pv) (w : World) (hS : PSrc w a) : Calls Tryz.prog 91 #[PV a] w fun e w' => GivesF w w' e a (CanonOf (runsAt a.P)) := by
 have b0 := below_new w (.cells (PC a) 27)
 have b1 := below_new (w.alloc (.cells (PC a) 27)) (.cells (PC pv0) 27)
 have hp1 := pbox_new (w.alloc (.cells (PC a) 27)) pv0
 rw [World.size_alloc] at hp1
 have HXA := hide ((pbox_new w a).below b1)
 have HB1 := hide (b0.trans (b1.mono b0.size))
 have HS := hide (hS.below HB1.out)
 have HS0 := hide hS
 have HP1 := hide hp1
 clear hS b0 b1 hp1
 obtain ⟨wk, hwk⟩ : ∃ wk, (w.alloc (.cells (PC a) 27)).alloc (.cells (PC pv0) 27) = wk := ⟨_, rfl⟩
 rw [hwk] at HXA HB1 HS HP1
 have HZ : Hid (wk.heap.size = w.heap.size + 2) := by show _ = _; rw [<- hwk]; simp
 have l1 := run_ldP HXA.out.at
 go_enter Tryz.func91, Tryz.ntmps91
 go_wp2_with fail
 clear hwk
 refine (isNormP_any a _ HS.out).mono ?_
 rintro e w1 ⟨b, rfl, hb, b2⟩
 have HBI := hide hb
 have HB2 := hide (HB1.out.trans (b2.mono HB1.out.size))
 have HP2 := hide (HP1.out.below b2)
 have HS2 := hide (HS.out.below b2)
 have l2 := run_ldP (HXA.out.below b2).at
 have HZ2 : Hid (w.heap.size + 2 <= w1.heap.size) := by have := b2.size; have h := HZ.out; show _ <= _; omega
 clear l1 hb b2 HXA HP1 HS HB1 HZ
 cases b with
 | true =>
  have s1 := run_stP (p' := a) HP2.out
  have HE1 : Hid (PBox (w1.setRow (w.heap.size + 1) (PC a)) (w.heap.size + 1) a) := setRow_heap _ _ _ _ _ _ HP2.out
  have HE2 : Hid (GivesF w (w1.setRow (w.heap.size + 1) (PC a)) (.returned (PV a)) a (CanonOf (runsAt a.P))) := by
   have hf := HBI.out.out.1 rfl
   exact ⟨a, rfl, HS2.out.far (PFar.old HS0.out (by omega)) (fun q hq => setRow_other _ _ _ _ hq), Or.inl rfl, below_setRow HB2.out (by omega), canon_of_chain hf.1 hf.2⟩
  go_wp2_with fail
  exact bodyPost_ret (v := PV a) (resP Tryz.results91 rfl HE1.out) rfl HE2.out
 | false =>
  go_wp2_with fail
  refine (pastNorm_any a _ HS2.out).mono ?_
  rintro e w2 ⟨p, rfl, S2, n2, b3, c2⟩
  obtain ⟨s1, e1, e2, e3, e4⟩ := past_end (w := w) (HP2.out.below b3) S2 (n2.mono (by have := HZ2.out; omega)) (HB2.out.trans (b3.mono HB2.out.size)) (by omega)
  have HE1 := hide e1
  have HE2 : Hid (GivesF w (w2.setRow (w.heap.size + 1) (PC p)) (.returned (PV p)) a (CanonOf (runsAt a.P))) := ⟨p, rfl, e2, Or.inr e3, e4, c2⟩
  clear S2 n2 b3 c2 e1 e2 e3 e4 l2
  go_wp2_with fail
  exact bodyPost_ret (v := PV p) (resP Tryz.results91 rfl HE1.out) rfl HE2.out
end
end Go.Proofs.YtalcmdjiejhkgaaGreat
