/- BLb -/
import Derived.Test.YtfpmijfcemopoaaGreatTk
import Derived.Test.YtfpmijfcemopoaaGreatKb39
import Derived.Deep.CutRange
namespace Go.Proofs.YtfpmijfcemopoaaGreat
open Go.RowKit
attribute [local go_sem ↓] ldP_eq stP_eq ldRe_eq stRe_eq K.ld28_eq K.st28_eq
attribute [local go_sem] cells_PV PC_size cells_KsV KsC_size
def ApD (L : List K.En) (R : List Rc) (n : Nat) (Z : List K.En) (er : Int) : Prop := (K.chk L = 0 ∧ OkR R n ∧ Z = L.filter (freeB R) ∧ er = 0) ∨ (¬ (K.chk L = 0 ∧ OkR R n) ∧ Z = [] ∧ er = 1)
theorem ApA.det {w w' : World} {x : Ending} {L : List K.En} {R : List Rc} {n : Nat} (h : ApA w w' x L R n) : ∃ Z er, K.GivesEE w w' x Z er ∧ ApD L R n Z er := by
 rcases h with ⟨h1, h2, h3⟩ | ⟨h1, h3⟩
 ·exact ⟨_, _, h3, .inl ⟨h1, h2, rfl, rfl⟩⟩
 ·exact ⟨_, _, h3, .inr ⟨h1, rfl, rfl⟩⟩
theorem ApD.one {L : List K.En} {R : List Rc} {n : Nat} {Z Z' : List K.En} {er er' : Int} (h : ApD L R n Z er) (h' : ApD L R n Z' er') : Z = Z' ∧ er = er' := by
 rcases h with ⟨h1, h2, rfl, rfl⟩ | ⟨h1, rfl, rfl⟩ <;> rcases h' with ⟨k1, k2, rfl, rfl⟩ | ⟨k1, rfl, rfl⟩
 ·exact ⟨rfl, rfl⟩
 ·exact absurd ⟨h1, h2⟩ k1
 ·exact absurd ⟨k1, k2⟩ h1
 ·exact ⟨rfl, rfl⟩
set_option maxRecDepth 100000 in
set_option maxHeartbeats 6400000 in
theorem keepBars_law (m : Ks) (R Q : List Rc) (A B : List K.En) (w : World) (hS : KsS w m R Q A B) :
  Calls Tryz.prog 4 #[KsV m] w fun e w' => e = .returned (.bool true) ∧ Below w.heap.size w w' := by
 have HS := hide hS
 have HX := hide (KsBox_new w m)
 have HB := hide (below_new w (.cells (KsC m) 29))
 have hanb := hS.sa
 have hrnb : m.rn ≤ 209716 := by have := hS.sr.1; rw [hS.r.len] at this; exact this
 have HWt := hide (hS.sr.wt)
 have HNM := hide hS.nm
 clear hS
 obtain ⟨wk, hwk⟩ : ∃ wk, w.alloc (.cells (KsC m) 29) = wk := ⟨_, rfl⟩
 obtain ⟨G, hG⟩ : ∃ G, w.heap.size = G := ⟨_, rfl⟩
 rw [hwk] at HX HB
 rw [hG] at HX
 go_enter Tryz.func4, Tryz.ntmps4
 go_wp2_with fail
 refine (fixed_any _).mono ?_
 rintro e w2 ⟨rfl, b2⟩
 have HK2 : Hid (BKc w w2 G m) := ⟨HX.out.below b2, HB.out.trans (b2.mono HB.out.size)⟩
 clear b2 HX HB hwk hG
 have a2 := HK2.out.box.a
 have r2 := HK2.out.box.r
 go_wp2_with fail
 clear a2 r2
 refine (apply_any m.ao m.ro m.an m.ac m.rn m.rc A R w2 (HS.out.a.below HK2.out.bel) (HS.out.r.below HK2.out.bel) HWt.out HNM.out).mono ?_
 intro e w3 h3
 obtain ⟨Z, er, ⟨a3, n3, c3, rfl, S3, b3, -⟩, D3⟩ := h3.det
 have HK3 := hide (HK2.out.below b3)
 have HZ3 := hide S3
 have HD3 := hide D3
 clear h3 S3 b3 D3 HK2
 have q3 := HK3.out.box.a
 have r3 := HK3.out.box.r
 go_wp2_with fail
 clear q3 r3
 refine (refApply_any m.ao m.ro m.an m.ac m.rn m.rc A R w3 (HS.out.a.below HK3.out.bel) (HS.out.r.below HK3.out.bel)).mono ?_
 intro e w4 h4
 obtain ⟨Z', er', ⟨a4, n4, c4, rfl, S4, b4, -⟩, D4⟩ := h4.det
 obtain ⟨rfl, rfl⟩ := HD3.out.one D4
 have HK4 := hide (HK3.out.below b4)
 have HZ3b := hide (HZ3.out.below b4)
 have HZ4 := hide S4
 clear h4 S4 b4 D4 HK3 HZ3 HD3
 have hne : (er != er) = false := by simp
 go_wp2_with fail
 refine (sameEntries_any a3 a4 n3 n4 c3 c4 Z Z w4 HZ3b.out HZ4.out).mono ?_
 rintro e w5 ⟨x, rfl, hx, b5⟩
 obtain rfl : x = true := hx.2 rfl
 have HK5 := hide (HK4.out.below b5)
 clear hx b5 HK4 HZ3b HZ4 hne
 go_wp2_with fail
 go_loopw [7] (fun i wr => ∃ k : Nat, k ≤ m.an ∧ i = .int .i64 (k : Int) ∧ Hid (BKc w wr G m)) (fun i _ => m.an - (intOf i).toNat)
 case atStart => exact ⟨0, Nat.zero_le _, rfl, HK5⟩
 case round =>
  obtain ⟨k, hk, rfl, HK⟩ := hrel
  rename World => wr
  have a6 := HK.out.box.a
  by_cases hlt : k < m.an
  ·have hlti : (k : Int) < (m.an : Int) := by omega
   obtain ⟨ad, hao, A0⟩ := (HS.out.a.below HK.out.bel).at k hlt
   obtain ⟨en, He⟩ : ∃ en, Hid (A.getD k K.en0 = en) := ⟨_, rfl⟩
   rw [He.out] at A0
   rw [hao] at a6
   have HA0 := hide A0
   have Hao := hide hao
   have Hlt := hide hlt
   have HSt : Hid (∀ W, Below wr.heap.size wr W → W.cell? ⟨G, 0, none⟩ = some (.slice m.ro m.rn m.rc) ∧ W.cell? ⟨G, 1, none⟩ = some (.slice m.qo m.qn m.qc) ∧ W.cell? ⟨G, 2, none⟩ = some (.slice (some ad) m.an m.ac) ∧ (K.ld28 (.pointer (some (ad.add (k * 4))))).run Tryz.prog W = .ok (K.EV en) W) := fun W hW => by
    have hb := HK.out.box.below hW
    refine ⟨hb.r, hb.q, ?_, K.run_ld28 (HA0.out.on hW)⟩
    rw [← Hao.out]; exact hb.a
   clear A0 hao hlt hk
   go_upto_region 10 with fail
   clear a6
   refine wp_region_held_drew (S := fun W => W.cell? ⟨G, 0, none⟩ = some (.slice m.ro m.rn m.rc) ∧ W.cell? ⟨G, 1, none⟩ = some (.slice m.qo m.qn m.qc) ∧ W.cell? ⟨G, 2, none⟩ = some (.slice (some ad) m.an m.ac) ∧ (K.ld28 (.pointer (some (ad.add (k * 4))))).run Tryz.prog W = .ok (K.EV en) W) (by kernel_rfl) (HSt.out _ (below_drew1 wr)) (fun hHeld => ?_)
   refine wTk 0 ⟨some 42, .fieldAddr 29 (.tmp 1) 0, 0, "law.go:69", #[], none⟩ rfl ?_
   refine wTk 1 ⟨some 43, .load 22 (.tmp 42), 22, "law.go:69", #[⟨0, .data⟩], none⟩ rfl ?_
   refine wTk 2 ⟨some 44, .fieldAddr 29 (.tmp 1) 2, 0, "law.go:69", #[], none⟩ rfl ?_
   refine wTk 3 ⟨some 45, .load 23 (.tmp 44), 23, "law.go:69", #[⟨2, .data⟩], none⟩ rfl ?_
   refine wTk 4 ⟨some 46, .move (.tmp 7), 3, "law.go:69", #[], none⟩ rfl ?_
   refine wTk 5 ⟨some 47, .indexAddr 23 (.tmp 45) (.tmp 46), 0, "law.go:69", #[⟨3, .data⟩, ⟨4, .data⟩], none⟩ rfl ?_
   refine wTk 6 ⟨some 48, .load 49 (.tmp 47), 49, "law.go:69", #[⟨5, .data⟩], none⟩ rfl ?_
   refine wTk 8 ⟨some 50, .fieldAddr 29 (.tmp 1) 0, 0, "law.go:69", #[], none⟩ rfl ?_
   refine wTk 9 ⟨some 51, .load 22 (.tmp 50), 22, "law.go:69", #[⟨8, .data⟩], none⟩ rfl ?_
   refine wTk 10 ⟨some 52, .fieldAddr 29 (.tmp 1) 2, 0, "law.go:69", #[], none⟩ rfl ?_
   refine wTk 11 ⟨some 53, .load 23 (.tmp 52), 23, "law.go:69", #[⟨10, .data⟩], none⟩ rfl ?_
   refine wTk 12 ⟨some 54, .move (.tmp 7), 3, "law.go:69", #[], none⟩ rfl ?_
   refine wTk 13 ⟨some 55, .indexAddr 23 (.tmp 53) (.tmp 54), 0, "law.go:69", #[⟨11, .data⟩, ⟨12, .data⟩], none⟩ rfl ?_
   refine wTk 14 ⟨some 56, .load 49 (.tmp 55), 49, "law.go:69", #[⟨13, .data⟩], none⟩ rfl ?_
   refine wpAnyH_ready (rs := [7]) (by kernel_rfl) (by simp) (.cons rfl (fun K hK => ?_) .nil)
   go_simp
   go_wp2_with fail
   refine (keepBars_any m.ro m.rn m.rc R en _ (HS.out.r.below (HK.out.bel.trans ((below_drew1 wr).mono HK.out.bel.size)))).mono ?_
   rintro e u7 ⟨rfl, b7⟩
   have HT7 : Hid (Below wr.heap.size wr u7) := ((below_drew1 wr)).trans (b7.mono ((below_drew1 wr)).size)
   refine hK.out _ _ (HSt.out _ HT7.out) (fun hHeld => ?_)
   clear hK K
   clear b7
   refine wpAnyH_ready (rs := [15]) (by kernel_rfl) (by simp) (.cons rfl (fun K hK => ?_) .nil)
   go_simp
   go_wp2_with fail
   refine (refBars_any m.ro m.rn m.rc R en _ (HS.out.r.below (HK.out.bel.trans (HT7.out.mono HK.out.bel.size)))).mono ?_
   rintro e u15 ⟨rfl, b15⟩
   have HT15 : Hid (Below wr.heap.size wr u15) := (HT7.out).trans (b15.mono (HT7.out).size)
   refine hK.out _ _ (HSt.out _ HT15.out) (fun hHeld => ?_)
   clear hK K
   clear b15
   have hne : ((R.countP (fun r => covB r en) : Int) != (R.countP (fun r => covB r en) : Int)) = false := by simp
   refine wTk 16 ⟨some 58, .binOp .neq 3 (.tmp 49) (.tmp 57) 3, 4, "law.go:69", #[⟨7, .data⟩, ⟨15, .data⟩], none⟩ rfl ?_
   clear hne
   refine wTk 17 ⟨some 59, .move (.tmp 58), 4, "law.go:69", #[⟨16, .data⟩, ⟨15, .chain⟩], none⟩ rfl ?_
   refine wTk 18 ⟨some 60, .fieldAddr 29 (.tmp 1) 1, 0, "law.go:69", #[⟨17, .guard⟩], some (17, false)⟩ rfl ?_
   refine wTk 19 ⟨some 61, .load 22 (.tmp 60), 22, "law.go:69", #[⟨18, .data⟩, ⟨17, .guard⟩], some (17, false)⟩ rfl ?_
   refine wTk 20 ⟨some 62, .fieldAddr 29 (.tmp 1) 2, 0, "law.go:69", #[⟨17, .guard⟩], some (17, false)⟩ rfl ?_
   refine wTk 21 ⟨some 63, .load 23 (.tmp 62), 23, "law.go:69", #[⟨20, .data⟩, ⟨17, .guard⟩], some (17, false)⟩ rfl ?_
   refine wTk 22 ⟨some 64, .move (.tmp 7), 3, "law.go:69", #[⟨17, .guard⟩], some (17, false)⟩ rfl ?_
   refine wTk 23 ⟨some 65, .indexAddr 23 (.tmp 63) (.tmp 64), 0, "law.go:69", #[⟨21, .data⟩, ⟨22, .data⟩, ⟨17, .guard⟩], some (17, false)⟩ rfl ?_
   refine wTk 24 ⟨some 66, .load 49 (.tmp 65), 49, "law.go:69", #[⟨23, .data⟩, ⟨17, .guard⟩], some (17, false)⟩ rfl ?_
   refine wTk 26 ⟨some 68, .fieldAddr 29 (.tmp 1) 1, 0, "law.go:69", #[⟨17, .guard⟩], some (17, false)⟩ rfl ?_
   refine wTk 27 ⟨some 69, .load 22 (.tmp 68), 22, "law.go:69", #[⟨26, .data⟩, ⟨17, .guard⟩], some (17, false)⟩ rfl ?_
   refine wTk 28 ⟨some 70, .fieldAddr 29 (.tmp 1) 2, 0, "law.go:69", #[⟨17, .guard⟩], some (17, false)⟩ rfl ?_
   refine wTk 29 ⟨some 71, .load 23 (.tmp 70), 23, "law.go:69", #[⟨28, .data⟩, ⟨17, .guard⟩], some (17, false)⟩ rfl ?_
   refine wTk 30 ⟨some 72, .move (.tmp 7), 3, "law.go:69", #[⟨17, .guard⟩], some (17, false)⟩ rfl ?_
   refine wTk 31 ⟨some 73, .indexAddr 23 (.tmp 71) (.tmp 72), 0, "law.go:69", #[⟨29, .data⟩, ⟨30, .data⟩, ⟨17, .guard⟩], some (17, false)⟩ rfl ?_
   refine wTk 32 ⟨some 74, .load 49 (.tmp 73), 49, "law.go:69", #[⟨31, .data⟩, ⟨17, .guard⟩], some (17, false)⟩ rfl ?_
   refine wpAnyH_ready (rs := [25]) (by kernel_rfl) (by simp) (.cons rfl (fun K hK => ?_) .nil)
   go_simp
   go_wp2_with fail
   refine (keepBars_any m.qo m.qn m.qc Q en _ (HS.out.q.below (HK.out.bel.trans (HT15.out.mono HK.out.bel.size)))).mono ?_
   rintro e u25 ⟨rfl, b25⟩
   have HT25 : Hid (Below wr.heap.size wr u25) := (HT15.out).trans (b25.mono (HT15.out).size)
   refine hK.out _ _ (HSt.out _ HT25.out) (fun hHeld => ?_)
   clear hK K
   clear b25
   refine wpAnyH_ready (rs := [33]) (by kernel_rfl) (by simp) (.cons rfl (fun K hK => ?_) .nil)
   go_simp
   go_wp2_with fail
   refine (refBars_any m.qo m.qn m.qc Q en _ (HS.out.q.below (HK.out.bel.trans (HT25.out.mono HK.out.bel.size)))).mono ?_
   rintro e u33 ⟨rfl, b33⟩
   have HT33 : Hid (Below wr.heap.size wr u33) := (HT25.out).trans (b33.mono (HT25.out).size)
   refine hK.out _ _ (HSt.out _ HT33.out) (fun hHeld => ?_)
   clear hK K
   clear b33
   have hne : ((Q.countP (fun r => covB r en) : Int) != (Q.countP (fun r => covB r en) : Int)) = false := by simp
   refine wTk 34 ⟨some 76, .binOp .neq 3 (.tmp 67) (.tmp 75) 3, 4, "law.go:69", #[⟨25, .data⟩, ⟨33, .data⟩, ⟨17, .guard⟩], some (17, false)⟩ rfl ?_
   clear hne
   refine wTk 35 ⟨some 77, .pick (.tmp 59) (.const (.bool true)) (.tmp 76), 4, "law.go:69", #[⟨17, .data⟩, ⟨34, .data⟩], none⟩ rfl ?_
   refine wpAnyH_done (by kernel_rfl) ?_ _
   clear hHeld
   have HK6 := hide (HK.out.below HT33.out)
   have HA6 := hide (HA0.out.on HT33.out)
   have r6 := HK6.out.box.r
   by_cases hkr : k < m.rn
   ·have hkri : (k : Int) < (m.rn : Int) := by omega
    obtain ⟨bd, hbo, B0⟩ := (HS.out.r.below HK6.out.bel).at k hkr
    have hOk := (HS.out.r.below HK6.out.bel).okAt k hkr
    obtain ⟨rr, Hr⟩ : ∃ rr, Hid (R.getD k rc0 = rr) := ⟨_, rfl⟩
    rw [Hr.out] at B0 hOk
    have HB0 := hide B0
    have HOk := hide hOk
    have Hbo := hide hbo
    rw [hbo] at r6
    have HSu : Hid (∀ W, Below u33.heap.size u33 W → W.cell? ⟨G, 0, none⟩ = some (.slice (some bd) m.rn m.rc) ∧ W.cell? ⟨G, 2, none⟩ = some (.slice (some ad) m.an m.ac) ∧ (K.ld28 (.pointer (some (ad.add (k * 4))))).run Tryz.prog W = .ok (K.EV en) W ∧ (ldRe (.pointer (some (bd.add (k * 3))))).run Tryz.prog W = .ok (ReV (mkR rr)) W) := fun W hW => by
     have hb := HK6.out.box.below hW
     refine ⟨?_, ?_, K.run_ld28 (HA6.out.on hW), run_laRe (HB0.out.on hW)⟩
     ·rw [← Hbo.out]; exact hb.r
     ·rw [← Hao.out]; exact hb.a
    clear B0 hOk hbo
    go_upto_region 12 with fail
    clear r6
    refine wp_region_held_drew (S := fun W => W.cell? ⟨G, 0, none⟩ = some (.slice (some bd) m.rn m.rc) ∧ W.cell? ⟨G, 2, none⟩ = some (.slice (some ad) m.an m.ac) ∧ (K.ld28 (.pointer (some (ad.add (k * 4))))).run Tryz.prog W = .ok (K.EV en) W ∧ (ldRe (.pointer (some (bd.add (k * 3))))).run Tryz.prog W = .ok (ReV (mkR rr)) W) (by kernel_rfl) (HSu.out _ (below_drew1 u33)) (fun hHeld => ?_)
    refine wTk 0 ⟨some 78, .move (.tmp 7), 3, "law.go:72", #[], none⟩ rfl ?_
    refine wTk 1 ⟨some 79, .fieldAddr 29 (.tmp 1) 0, 0, "law.go:72", #[], none⟩ rfl ?_
    refine wTk 2 ⟨some 80, .load 22 (.tmp 79), 22, "law.go:72", #[⟨1, .data⟩], none⟩ rfl ?_
    refine wTk 3 ⟨some 81, .call ⟨.builtin .len, #[.tmp 80], #[22]⟩, 3, "law.go:72", #[⟨2, .data⟩], none⟩ rfl ?_
    refine wTk 4 ⟨some 82, .binOp .lss 3 (.tmp 78) (.tmp 81) 3, 4, "law.go:72", #[⟨0, .data⟩, ⟨3, .data⟩], none⟩ rfl ?_
    refine wTk 5 ⟨some 83, .move (.tmp 82), 4, "law.go:72", #[⟨4, .data⟩], none⟩ rfl ?_
    refine wTk 6 ⟨some 84, .fieldAddr 29 (.tmp 1) 0, 0, "law.go:72", #[⟨5, .guard⟩], some (5, true)⟩ rfl ?_
    refine wTk 7 ⟨some 85, .load 22 (.tmp 84), 22, "law.go:72", #[⟨6, .data⟩, ⟨5, .guard⟩], some (5, true)⟩ rfl ?_
    refine wTk 8 ⟨some 86, .move (.tmp 7), 3, "law.go:72", #[⟨5, .guard⟩], some (5, true)⟩ rfl ?_
    refine wTk 9 ⟨some 87, .indexAddr 22 (.tmp 85) (.tmp 86), 0, "law.go:72", #[⟨7, .data⟩, ⟨8, .data⟩, ⟨5, .guard⟩], some (5, true)⟩ rfl ?_
    refine wTk 10 ⟨some 88, .load 39 (.tmp 87), 39, "law.go:72", #[⟨9, .data⟩, ⟨5, .guard⟩], some (5, true)⟩ rfl ?_
    refine wTk 11 ⟨some 89, .fieldAddr 29 (.tmp 1) 2, 0, "law.go:72", #[⟨5, .guard⟩], some (5, true)⟩ rfl ?_
    refine wTk 12 ⟨some 90, .load 23 (.tmp 89), 23, "law.go:72", #[⟨11, .data⟩, ⟨5, .guard⟩], some (5, true)⟩ rfl ?_
    refine wTk 13 ⟨some 91, .move (.tmp 7), 3, "law.go:72", #[⟨5, .guard⟩], some (5, true)⟩ rfl ?_
    refine wTk 14 ⟨some 92, .indexAddr 23 (.tmp 90) (.tmp 91), 0, "law.go:72", #[⟨12, .data⟩, ⟨13, .data⟩, ⟨5, .guard⟩], some (5, true)⟩ rfl ?_
    refine wTk 15 ⟨some 93, .load 49 (.tmp 92), 49, "law.go:72", #[⟨14, .data⟩, ⟨5, .guard⟩], some (5, true)⟩ rfl ?_
    refine wTk 17 ⟨some 95, .fieldAddr 29 (.tmp 1) 0, 0, "law.go:72", #[⟨5, .guard⟩], some (5, true)⟩ rfl ?_
    refine wTk 18 ⟨some 96, .load 22 (.tmp 95), 22, "law.go:72", #[⟨17, .data⟩, ⟨5, .guard⟩], some (5, true)⟩ rfl ?_
    refine wTk 19 ⟨some 97, .move (.tmp 7), 3, "law.go:72", #[⟨5, .guard⟩], some (5, true)⟩ rfl ?_
    refine wTk 20 ⟨some 98, .indexAddr 22 (.tmp 96) (.tmp 97), 0, "law.go:72", #[⟨18, .data⟩, ⟨19, .data⟩, ⟨5, .guard⟩], some (5, true)⟩ rfl ?_
    refine wTk 21 ⟨some 99, .load 39 (.tmp 98), 39, "law.go:72", #[⟨20, .data⟩, ⟨5, .guard⟩], some (5, true)⟩ rfl ?_
    refine wTk 22 ⟨some 100, .fieldAddr 29 (.tmp 1) 2, 0, "law.go:72", #[⟨5, .guard⟩], some (5, true)⟩ rfl ?_
    refine wTk 23 ⟨some 101, .load 23 (.tmp 100), 23, "law.go:72", #[⟨22, .data⟩, ⟨5, .guard⟩], some (5, true)⟩ rfl ?_
    refine wTk 24 ⟨some 102, .move (.tmp 7), 3, "law.go:72", #[⟨5, .guard⟩], some (5, true)⟩ rfl ?_
    refine wTk 25 ⟨some 103, .indexAddr 23 (.tmp 101) (.tmp 102), 0, "law.go:72", #[⟨23, .data⟩, ⟨24, .data⟩, ⟨5, .guard⟩], some (5, true)⟩ rfl ?_
    refine wTk 26 ⟨some 104, .load 49 (.tmp 103), 49, "law.go:72", #[⟨25, .data⟩, ⟨5, .guard⟩], some (5, true)⟩ rfl ?_
    refine wpAnyH_ready (rs := [16]) (by kernel_rfl) (by simp) (.cons rfl (fun K hK => ?_) .nil)
    go_simp
    go_wp2_with fail
    refine (covers_any rr en _ (HOk.out.below (below_drew1 u33))).mono ?_
    rintro e v16 ⟨rfl, b16⟩
    have HV16 : Hid (Below u33.heap.size u33 v16) := ((below_drew1 u33)).trans (b16.mono ((below_drew1 u33)).size)
    refine hK.out _ _ (HSu.out _ HV16.out) (fun hHeld => ?_)
    clear hK K
    clear b16
    refine wpAnyH_ready (rs := [27]) (by kernel_rfl) (by simp) (.cons rfl (fun K hK => ?_) .nil)
    go_simp
    go_wp2_with fail
    refine (refCovers_any rr en _ (HOk.out.below HV16.out)).mono ?_
    rintro e v27 ⟨rfl, b27⟩
    have HV27 : Hid (Below u33.heap.size u33 v27) := (HV16.out).trans (b27.mono (HV16.out).size)
    refine hK.out _ _ (HSu.out _ HV27.out) (fun hHeld => ?_)
    clear hK K
    clear b27
    have hne : (covB rr en != covB rr en) = false := by simp
    refine wTk 28 ⟨some 106, .binOp .neq 4 (.tmp 94) (.tmp 105) 4, 4, "law.go:72", #[⟨16, .data⟩, ⟨27, .data⟩, ⟨5, .guard⟩], some (5, true)⟩ rfl ?_
    clear hne
    refine wTk 29 ⟨some 107, .pick (.tmp 83) (.tmp 106) (.const (.bool false)), 4, "law.go:72", #[⟨5, .data⟩, ⟨28, .data⟩], none⟩ rfl ?_
    refine wpAnyH_done (by kernel_rfl) ?_ _
    clear hHeld
    have HKv := hide (HK6.out.below HV27.out)
    go_wp2_with fail
    go_roundw
    case rel => exact ⟨k + 1, Hlt.out, by simp, HKv⟩
    case measure => simp [intOf]; have := Hlt.out; omega
   ·have hkri : ¬ (k : Int) < (m.rn : Int) := by omega
    have HSu : Hid (∀ W, Below u33.heap.size u33 W → W.cell? ⟨G, 0, none⟩ = some (.slice m.ro m.rn m.rc)) := fun W hW => (HK6.out.box.below hW).r
    go_upto_region 12 with fail
    clear r6
    refine wp_region_held_drew (S := fun W => W.cell? ⟨G, 0, none⟩ = some (.slice m.ro m.rn m.rc)) (by kernel_rfl) (HSu.out _ (below_drew1 u33)) (fun hHeld => ?_)
    refine wTk 0 ⟨some 78, .move (.tmp 7), 3, "law.go:72", #[], none⟩ rfl ?_
    refine wTk 1 ⟨some 79, .fieldAddr 29 (.tmp 1) 0, 0, "law.go:72", #[], none⟩ rfl ?_
    refine wTk 2 ⟨some 80, .load 22 (.tmp 79), 22, "law.go:72", #[⟨1, .data⟩], none⟩ rfl ?_
    refine wTk 3 ⟨some 81, .call ⟨.builtin .len, #[.tmp 80], #[22]⟩, 3, "law.go:72", #[⟨2, .data⟩], none⟩ rfl ?_
    refine wTk 4 ⟨some 82, .binOp .lss 3 (.tmp 78) (.tmp 81) 3, 4, "law.go:72", #[⟨0, .data⟩, ⟨3, .data⟩], none⟩ rfl ?_
    refine wTk 5 ⟨some 83, .move (.tmp 82), 4, "law.go:72", #[⟨4, .data⟩], none⟩ rfl ?_
    refine wSk 6 ⟨some 84, .fieldAddr 29 (.tmp 1) 0, 0, "law.go:72", #[⟨5, .guard⟩], some (5, true)⟩ rfl ?_
    refine wSk 7 ⟨some 85, .load 22 (.tmp 84), 22, "law.go:72", #[⟨6, .data⟩, ⟨5, .guard⟩], some (5, true)⟩ rfl ?_
    refine wSk 8 ⟨some 86, .move (.tmp 7), 3, "law.go:72", #[⟨5, .guard⟩], some (5, true)⟩ rfl ?_
    refine wSk 9 ⟨some 87, .indexAddr 22 (.tmp 85) (.tmp 86), 0, "law.go:72", #[⟨7, .data⟩, ⟨8, .data⟩, ⟨5, .guard⟩], some (5, true)⟩ rfl ?_
    refine wSk 10 ⟨some 88, .load 39 (.tmp 87), 39, "law.go:72", #[⟨9, .data⟩, ⟨5, .guard⟩], some (5, true)⟩ rfl ?_
    refine wSk 11 ⟨some 89, .fieldAddr 29 (.tmp 1) 2, 0, "law.go:72", #[⟨5, .guard⟩], some (5, true)⟩ rfl ?_
    refine wSk 12 ⟨some 90, .load 23 (.tmp 89), 23, "law.go:72", #[⟨11, .data⟩, ⟨5, .guard⟩], some (5, true)⟩ rfl ?_
    refine wSk 13 ⟨some 91, .move (.tmp 7), 3, "law.go:72", #[⟨5, .guard⟩], some (5, true)⟩ rfl ?_
    refine wSk 14 ⟨some 92, .indexAddr 23 (.tmp 90) (.tmp 91), 0, "law.go:72", #[⟨12, .data⟩, ⟨13, .data⟩, ⟨5, .guard⟩], some (5, true)⟩ rfl ?_
    refine wSk 15 ⟨some 93, .load 49 (.tmp 92), 49, "law.go:72", #[⟨14, .data⟩, ⟨5, .guard⟩], some (5, true)⟩ rfl ?_
    refine wSk 16 ⟨some 94, .call ⟨.value (.func 24), #[.tmp 88, .tmp 93], #[39, 49]⟩, 4, "law.go:72", #[⟨10, .data⟩, ⟨15, .data⟩, ⟨5, .chain⟩, ⟨5, .guard⟩], some (5, true)⟩ rfl ?_
    refine wSk 17 ⟨some 95, .fieldAddr 29 (.tmp 1) 0, 0, "law.go:72", #[⟨5, .guard⟩], some (5, true)⟩ rfl ?_
    refine wSk 18 ⟨some 96, .load 22 (.tmp 95), 22, "law.go:72", #[⟨17, .data⟩, ⟨5, .guard⟩], some (5, true)⟩ rfl ?_
    refine wSk 19 ⟨some 97, .move (.tmp 7), 3, "law.go:72", #[⟨5, .guard⟩], some (5, true)⟩ rfl ?_
    refine wSk 20 ⟨some 98, .indexAddr 22 (.tmp 96) (.tmp 97), 0, "law.go:72", #[⟨18, .data⟩, ⟨19, .data⟩, ⟨5, .guard⟩], some (5, true)⟩ rfl ?_
    refine wSk 21 ⟨some 99, .load 39 (.tmp 98), 39, "law.go:72", #[⟨20, .data⟩, ⟨5, .guard⟩], some (5, true)⟩ rfl ?_
    refine wSk 22 ⟨some 100, .fieldAddr 29 (.tmp 1) 2, 0, "law.go:72", #[⟨5, .guard⟩], some (5, true)⟩ rfl ?_
    refine wSk 23 ⟨some 101, .load 23 (.tmp 100), 23, "law.go:72", #[⟨22, .data⟩, ⟨5, .guard⟩], some (5, true)⟩ rfl ?_
    refine wSk 24 ⟨some 102, .move (.tmp 7), 3, "law.go:72", #[⟨5, .guard⟩], some (5, true)⟩ rfl ?_
    refine wSk 25 ⟨some 103, .indexAddr 23 (.tmp 101) (.tmp 102), 0, "law.go:72", #[⟨23, .data⟩, ⟨24, .data⟩, ⟨5, .guard⟩], some (5, true)⟩ rfl ?_
    refine wSk 26 ⟨some 104, .load 49 (.tmp 103), 49, "law.go:72", #[⟨25, .data⟩, ⟨5, .guard⟩], some (5, true)⟩ rfl ?_
    refine wSk 27 ⟨some 105, .call ⟨.value (.func 25), #[.tmp 99, .tmp 104], #[39, 49]⟩, 4, "law.go:72", #[⟨21, .data⟩, ⟨26, .data⟩, ⟨16, .chain⟩, ⟨5, .guard⟩], some (5, true)⟩ rfl ?_
    refine wSk 28 ⟨some 106, .binOp .neq 4 (.tmp 94) (.tmp 105) 4, 4, "law.go:72", #[⟨16, .data⟩, ⟨27, .data⟩, ⟨5, .guard⟩], some (5, true)⟩ rfl ?_
    refine wTk 29 ⟨some 107, .pick (.tmp 83) (.tmp 106) (.const (.bool false)), 4, "law.go:72", #[⟨5, .data⟩, ⟨28, .data⟩], none⟩ rfl ?_
    refine wpAnyH_done (by kernel_rfl) ?_ _
    clear hHeld
    have HKv := hide (HK6.out.below (below_drew1 u33))
    go_wp2_with fail
    go_roundw
    case rel => exact ⟨k + 1, Hlt.out, by simp, HKv⟩
    case measure => simp [intOf]; have := Hlt.out; omega
  ·have hlti : ¬ (k : Int) < (m.an : Int) := by omega
   go_wp2_with fail
   go_ret
   exact ⟨rfl, HK.out.bel⟩
end Go.Proofs.YtfpmijfcemopoaaGreat
