/- TCl TSr TMn -/
import Derived.Test.YtehcehhfdhiomaaGreatTk
import Derived.Test.YtehcehhfdhiomaaGreatTv37
import Derived.Test.YtehcehhfdhiomaaGreatTv38
import Derived.Test.YtehcehhfdhiomaaGreatTv29
import Derived.Test.YtehcehhfdhiomaaGreatTv20
import Derived.Test.YtehcehhfdhiomaaGreatTv43
import Derived.Deep.CutRange
namespace Go.Proofs.YtehcehhfdhiomaaGreat
open Go.RowKit
def ClE (e : K.En) (g : Fc) : Prop := ∃ y ∈ g.es, K.sameDot y e = true ∧ y ≠ e
def dotE (e : K.En) : Rn := ⟨e.rep, e.num⟩
def ClOf (f g : Fc) (d : Rn) (b : Bool) : Prop := (¬ (FormF f ∧ FormF g) ∧ d = rn0 ∧ b = false) ∨ (FormF f ∧ FormF g ∧ ((b = false ∧ d = rn0 ∧ ∀ i, i < f.an → ¬ ClE (f.es.getD i K.en0) g) ∨ (b = true ∧ ∃ i, i < f.an ∧ ClE (f.es.getD i K.en0) g ∧ (∀ j, j < i → ¬ ClE (f.es.getD j K.en0) g) ∧ d = dotE (f.es.getD i K.en0))))
def ClA (w w' : World) (x : Ending) (f g : Fc) : Prop := ∃ (d : Rn) (b : Bool), x = .returned (.tuple #[RV d, .bool b]) ∧ ClOf f g d b ∧ Below w.heap.size w w'
theorem getE_mem {L : List K.En} {k : Nat} (h : k < L.length) : L.getD k K.en0 ∈ L := by
 rw [List.getD_eq_getElem?_getD, List.getElem?_eq_getElem h]; exact List.getElem_mem h
theorem eqE_iff2 (x y : K.En) : K.eqE x y = true ↔ x = y := by
 constructor
 ·intro h
  unfold K.eqE at h
  simp only [Bool.and_eq_true, beq_iff_eq] at h
  obtain ⟨⟨⟨h1, h2⟩, h3⟩, h4⟩ := h
  have h5 := list_ext h3
  cases x; cases y; simp_all
 ·rintro rfl; exact K.eqE_self _
theorem find_cl {e : K.En} {g : Fc} {k : Int} (hc : K.chk g.es = 0) (h : K.IxOf g.es e k) : (k < 0 → ¬ ClE e g) ∧ (0 ≤ k → K.sameDot (K.fdE g.es k) e = true ∧ (ClE e g ↔ K.eqE (K.fdE g.es k) e = false)) := by
 rcases h with ⟨rfl, h1⟩ | ⟨i, h1, rfl, h2, -⟩
 ·refine ⟨fun _ => ?_, fun h => absurd h (by decide)⟩
  rintro ⟨y, hy, hd, -⟩
  obtain ⟨j, hj, rfl⟩ := List.getElem_of_mem hy
  have := h1 j hj
  rw [List.getD_eq_getElem?_getD, List.getElem?_eq_getElem hj] at this
  simp only [Option.getD_some] at this
  rw [this] at hd; cases hd
 ·refine ⟨fun h => absurd h (by omega), fun _ => ?_⟩
  have e1 : K.fdE g.es (i : Int) = g.es.getD i K.en0 := by unfold K.fdE; rw [if_neg (by omega), Int.toNat_natCast]
  rw [e1]
  refine ⟨h2, ?_, fun h => ⟨_, getE_mem h1, h2, fun e2 => by rw [(eqE_iff2 _ _).2 e2] at h; cases h⟩⟩
  rintro ⟨y, hy, hd, hne⟩
  have hdd : dotOf y = dotOf (g.es.getD i K.en0) := by
   unfold K.sameDot at hd h2
   simp only [Bool.and_eq_true, beq_iff_eq] at hd h2
   unfold dotOf
   rw [hd.1, hd.2, h2.1, h2.2]
  have := dot_one hc hy (getE_mem h1) hdd
  cases hq : K.eqE (g.es.getD i K.en0) e with
  | false => rfl
  | true => exact absurd (by rw [this]; exact (eqE_iff2 _ _).1 hq) hne
attribute [local go_sem ↓] ldP_eq stP_eq ldFa_eq stFa_eq ldD_eq stD_eq K.ld28_eq K.st28_eq
attribute [local go_sem] cells_PV PC_size cells_FaV FaC_size cells_RV RC_size zero_RC fold_RC K.zero_EC K.cells_EV K.EC_size
def bldDz (a : Array (Nat × Value)) : Sem Value := Instr.build 46 a
theorem bldDz_eq (a : Array (Nat × Value)) : Instr.build 46 a = bldDz a := rfl
theorem run_bldDz (w : World) : (bldDz #[]).run Tryz.prog w = .ok (RV rn0) w := by kernel_rfl
attribute [local go_sem ↓] bldDz_eq
attribute [local go_sem] run_bldDz
theorem resD2 {w : World} {g : Nat} {fn : Func} {p q : Tmp} {m : Rn} {v : Value} (h : fn.results = #[.cell p 46, .tmp q]) {tmps : Array Value} (hp : tmps.getD p undef = .pointer (some ⟨g, 0, none⟩)) (hq : tmps.getD q undef = v) (A : Box w g 46 m) :
  (results fn tmps).run Tryz.prog w = .ok (.tuple #[RV m, v]) w := by
 have hl : (loadVar 46 ⟨g, 0, none⟩).run Tryz.prog w = .ok (RV m) w := run_ldD A.at
 simp only [results, h]
 rw [Array.getD_eq_getD_getElem?] at hp hq
 simp [hp, hq, asAddr, hl]
theorem box3D (w : World) (f g : Fc) : ∃ wk, ((w.alloc (.cells (FaC (mkF f)) 29)).alloc (.cells (FaC (mkF g)) 29)).alloc (.cells (RC rn0) 46) = wk ∧ Hid (FaBox wk w.heap.size (mkF f)) ∧ Hid (FaBox wk (w.heap.size + 1) (mkF g)) ∧ Hid (Box wk (w.heap.size + 2) 46 rn0) ∧ Hid (Below w.heap.size w wk) := by
 obtain ⟨w2, hw2, HX2, HY2, HB2⟩ := box2F w f g
 have b3 := below_new w2 (.cells (RC rn0) 46)
 have hs2 : w2.heap.size = w.heap.size + 2 := by rw [← hw2]; simp
 refine ⟨_, rfl, ?_, ?_, ?_, ?_⟩ <;> rw [hw2]
 ·exact HX2.out.below b3
 ·exact HY2.out.below b3
 ·have h := box_new w2 46 rn0
  rw [hs2] at h
  exact h
 ·exact HB2.out.trans (b3.mono HB2.out.size)
theorem give_cl {w W : World} {gg : Nat} {m0 d : Rn} {f g : Fc} {b : Bool} (hX : Box W gg 46 m0) (hb : Below w.heap.size w W) (hg : w.heap.size ≤ gg) (hD : ClOf f g d b) :
  Box (W.setRow gg (RC d)) gg 46 d ∧ ClA w (W.setRow gg (RC d)) (.returned (.tuple #[RV d, .bool b])) f g :=
 ⟨hX.setRow, d, b, rfl, hD, below_setRow hb hg⟩
set_option maxRecDepth 100000 in
set_option maxHeartbeats 6400000 in
theorem refClash_any (f g : Fc) (w : World) (hF : FcOk w f) (hG : FcOk w g) :
  Calls Tryz.prog 36 #[FaV (mkF f), FaV (mkF g)] w fun e w' => ClA w w' e f g := by
 obtain ⟨wk, hwk, HX, HY, HZ, HBK⟩ := box3D w f g
 have HF := hide (hF.below HBK.out)
 have HG := hide (hG.below HBK.out)
 clear hF hG
 obtain ⟨G, hG0⟩ : ∃ G, w.heap.size = G := ⟨_, rfl⟩
 rw [hG0] at HX HY HZ
 have HGs : Hid (w.heap.size = G) := hG0
 have lf := run_ldFa HX.out
 go_enter Tryz.func36, Tryz.ntmps36
 go_wp2_with fail
 clear hwk hG0
 refine (refCheckF_any f _ HF.out).mono ?_
 rintro e w1 ⟨x, rfl, hx, b1⟩
 have HB1 := hide b1
 clear b1 lf
 rcases hx with ⟨rfl, h1⟩ | ⟨rfl, h1⟩
 rotate_left
 ·have st0 := run_stD (r' := rn0) (HZ.out.below HB1.out)
  have HE := hide (give_cl (w := w) (d := rn0) (b := false) (HZ.out.below HB1.out) (HBK.out.trans (HB1.out.mono HBK.out.size)) (by rw [HGs.out]; omega) (.inl ⟨fun h => h1 h.1, rfl, rfl⟩ : ClOf f g rn0 false))
  clear h1
  go_wp2_with fail
  clear st0
  refine bodyPost_ret (resD2 rfl rfl rfl HE.out.1) rfl ?_
  exact HE.out.2
 have H1 := hide h1
 clear h1
 have lg := run_ldFa (HY.out.below HB1.out)
 go_wp2_with fail
 refine (refCheckF_any g _ (HG.out.below HB1.out)).mono ?_
 rintro e w2 ⟨x, rfl, hx, b2⟩
 have HB2 := hide (HB1.out.trans (b2.mono HB1.out.size))
 clear b2 lg HB1
 rcases hx with ⟨rfl, h1⟩ | ⟨rfl, h1⟩
 rotate_left
 ·have st0 := run_stD (r' := rn0) (HZ.out.below HB2.out)
  have HE := hide (give_cl (w := w) (d := rn0) (b := false) (HZ.out.below HB2.out) (HBK.out.trans (HB2.out.mono HBK.out.size)) (by rw [HGs.out]; omega) (.inl ⟨fun h => h1 h.2, rfl, rfl⟩ : ClOf f g rn0 false))
  clear h1
  go_wp2_with fail
  clear st0
  refine bodyPost_ret (resD2 rfl rfl rfl HE.out.1) rfl ?_
  exact HE.out.2
 have H2 := hide h1
 clear h1
 have HCg : Hid (K.chk g.es = 0) := (chk_okN HG.out.es.1).2 H2.out.1
 have hanb : f.an ≤ 3518437208883 := HF.out.es.2.2.2.2
 go_wp2_with fail
 go_loopw [6] (fun i wr => ∃ k : Nat, k ≤ f.an ∧ i = .int .i64 (k : Int) ∧ Hid (∀ j, j < k → ¬ ClE (f.es.getD j K.en0) g) ∧ Hid (Below wk.heap.size wk wr)) (fun i _ => f.an - (intOf i).toNat)
 case atStart => exact ⟨0, Nat.zero_le _, rfl, (fun j hj => absurd hj (Nat.not_lt_zero j)), HB2.out⟩
 case round =>
  obtain ⟨k, hk, rfl, HK, HB⟩ := hrel
  rename World => wr
  clear HB2
  obtain ⟨c0, c3⟩ := (HX.out.below HB.out).cs
  obtain ⟨d0, d3⟩ := (HY.out.below HB.out).cs
  by_cases hlt : k < f.an
  ·have hlti : (k : Int) < (f.an : Int) := by omega
   obtain ⟨ad, hao, A0⟩ := (HF.out.es.below HB.out).at k hlt
   obtain ⟨b1, o1, rfl⟩ : ∃ b o, ad = ⟨b, o, none⟩ := by
    have h0 := (HF.out.es.below HB.out).at 0 (by omega)
    obtain ⟨ad0, hao0, A00⟩ := h0
    rw [hao] at hao0
    obtain rfl := Option.some.inj hao0
    have hsp := World.cell?_spot A00.c0
    rw [Nat.zero_mul, K.add_zero] at hsp
    obtain ⟨b, o, sp⟩ := ad
    have hsp2 : sp = none := hsp
    subst hsp2
    exact ⟨b, o, rfl⟩
   rw [Addr.add_lit] at A0
   obtain ⟨e, He⟩ : ∃ e, Hid (f.es.getD k K.en0 = e) := ⟨_, rfl⟩
   rw [He.out] at A0
   rw [hao] at c0
   have HA := hide A0
   have HSt : Hid (∀ W, Below wr.heap.size wr W → (W.cell? ⟨G, 0, none⟩ = some (.slice (some ⟨b1, o1, none⟩) f.an f.ac) ∧ W.cell? ⟨G + 1, 0, none⟩ = some (.slice g.ao g.an g.ac)) ∧ (ldD (.pointer (some ⟨b1, o1 + k * 4, none⟩))).run Tryz.prog W = .ok (.agg (K.DC e)) W ∧ (K.ld28 (.pointer (some ⟨b1, o1 + k * 4, none⟩))).run Tryz.prog W = .ok (K.EV e) W) := fun W hW => by
    have hA := HA.out.on hW
    have hl : (ldD (.pointer (some ⟨b1, o1 + k * 4, none⟩))).run Tryz.prog W = .ok (RV (dotE e)) W := run_ldD ⟨hA.c0, hA.c1⟩
    exact ⟨⟨by rw [hW.cell (World.block_lt_of_cell? _ _ c0)]; exact c0, by rw [hW.cell (World.block_lt_of_cell? _ _ d0)]; exact d0⟩, hl, K.run_ld28 hA⟩
   have Hlt := hide hlt
   have HGr := hide (HG.out.below HB.out)
   clear A0 hao hlt hk c3 d3
   go_upto_region 6 with fail
   go_cut [7, 8] from 18 to 48 (fun p q wx => ∃ (gx : Nat) (kk : Int), p = .pointer (some ⟨gx, 0, none⟩) ∧ q = .bool (K.fdB kk) ∧ Hid (K.IxOf g.es e kk ∧ K.Box wx gx 48 (K.fdE g.es kk) ∧ Below wr.heap.size wr wx))
   case first =>
    refine wp_region_held_drew (S := fun W => (W.cell? ⟨G, 0, none⟩ = some (.slice (some ⟨b1, o1, none⟩) f.an f.ac) ∧ W.cell? ⟨G + 1, 0, none⟩ = some (.slice g.ao g.an g.ac)) ∧ (ldD (.pointer (some ⟨b1, o1 + k * 4, none⟩))).run Tryz.prog W = .ok (.agg (Go.Proofs.YtehcehhfdhiomaaGreat.K.DC e)) W ∧ (Go.Proofs.YtehcehhfdhiomaaGreat.K.ld28 (.pointer (some ⟨b1, o1 + k * 4, none⟩))).run Tryz.prog W = .ok (Go.Proofs.YtehcehhfdhiomaaGreat.K.EV e) W) (by kernel_rfl) (HSt.out _ (below_drew1 wr)) (fun hHeld => ?_)
    refine wTk 0 ⟨some 26, .fieldAddr 29 (.tmp 3) 0, 0, "ref.go:71", #[], none⟩ rfl ?_
    refine wTk 1 ⟨some 27, .load 22 (.tmp 26), 22, "ref.go:71", #[⟨0, .data⟩], none⟩ rfl ?_
    refine wTk 2 ⟨some 28, .fieldAddr 29 (.tmp 2) 0, 0, "ref.go:71", #[], none⟩ rfl ?_
    refine wTk 3 ⟨some 29, .load 22 (.tmp 28), 22, "ref.go:71", #[⟨2, .data⟩], none⟩ rfl ?_
    refine wTk 4 ⟨some 30, .move (.tmp 6), 3, "ref.go:71", #[], none⟩ rfl ?_
    refine wTk 5 ⟨some 31, .indexAddr 22 (.tmp 29) (.tmp 30), 0, "ref.go:71", #[⟨3, .data⟩, ⟨4, .data⟩], none⟩ rfl ?_
    refine wTk 6 ⟨some 32, .fieldAddr 48 (.tmp 31) 0, 0, "ref.go:71", #[⟨5, .data⟩], none⟩ rfl ?_
    refine wTk 7 ⟨some 33, .load 46 (.tmp 32), 46, "ref.go:71", #[⟨6, .data⟩], none⟩ rfl ?_
    refine wpAnyH_ready (rs := [8, 12]) (by kernel_rfl) (by simp) ?_
    refine AllReadyH.cons rfl (fun K hK => ?_) (AllReadyH.cons rfl (fun K hK => ?_) AllReadyH.nil)
    ·go_simp
     go_wp2_with fail
     refine (Go.Proofs.YtehcehhfdhiomaaGreat.K.refFind_any g.ao g.an g.ac g.es e _ (HGr.out.es.below (below_drew1 wr))).mono ?_
     rintro y w4 ⟨kk, rfl, hix, b4⟩
     have hB4 : Below wr.heap.size wr w4 := (below_drew1 wr).trans b4
     obtain ⟨g5, hg5⟩ : ∃ g5, w4.heap.size = g5 := ⟨_, rfl⟩
     obtain ⟨w5, hst, X5, B5, -⟩ := Go.Proofs.YtehcehhfdhiomaaGreat.K.made w4 (Go.Proofs.YtehcehhfdhiomaaGreat.K.fdE g.es kk) g5 hg5
     have hB5 : Below wr.heap.size wr w5 := hB4.trans (B5.mono hB4.size)
     have ha5 : Below wr.heap.size wr (w4.alloc (.cells (Go.Proofs.YtehcehhfdhiomaaGreat.K.EC Go.Proofs.YtehcehhfdhiomaaGreat.K.en0) 48)) := hB4.trans ((below_new w4 _).mono hB4.size)
     have HR : Hid (Go.Proofs.YtehcehhfdhiomaaGreat.K.IxOf g.es e kk ∧ Go.Proofs.YtehcehhfdhiomaaGreat.K.Box w5 g5 48 (Go.Proofs.YtehcehhfdhiomaaGreat.K.fdE g.es kk) ∧ Below wr.heap.size wr w5) := ⟨hix, X5, hB5⟩
     have HS4 := hide (HSt.out _ hB4)
     have HSa := hide (HSt.out _ ha5)
     have HS5 := hide (HSt.out _ hB5)
     refine hK.out _ _ HS4.out (fun hHeld => ?_)
     clear hK K b4 hB4 hB5 ha5 hix X5 B5
     refine wTk 9 ⟨some 25, .move (.tmp 34), 103, "ref.go:71", #[⟨8, .data⟩], none⟩ rfl ?_
     refine wTk 10 ⟨some 35, .extract (.tmp 25) 0, 48, "ref.go:71", #[⟨9, .data⟩], none⟩ rfl ?_
     refine wTk 11 ⟨some 36, .extract (.tmp 25) 1, 4, "ref.go:71", #[⟨9, .data⟩, ⟨13, .gcOnly .lateStores⟩], none⟩ rfl ?_
     refine wpAnyH_ready (rs := [12]) (by kernel_rfl) (by simp) (.cons rfl (fun K hK => ?_) .nil)
     go_simp
     refine hK.out _ _ HSa.out (fun hHeld => ?_)
     clear hK K
     refine wpAnyH_ready (rs := [13]) (by kernel_rfl) (by simp) (.cons rfl (fun K hK => ?_) .nil)
     go_simp
     refine hK.out _ _ HS5.out (fun hHeld => ?_)
     clear hK K
     refine wTk 14 ⟨some 8, .assign (.tmp 36), 4, "ref.go:71", #[⟨11, .data⟩, ⟨13, .chain⟩, ⟨0, .phase⟩, ⟨1, .phase⟩, ⟨2, .phase⟩, ⟨3, .phase⟩, ⟨4, .phase⟩, ⟨5, .phase⟩, ⟨6, .phase⟩, ⟨7, .phase⟩, ⟨8, .phase⟩, ⟨9, .phase⟩, ⟨10, .phase⟩, ⟨11, .phase⟩, ⟨12, .phase⟩, ⟨13, .phase⟩], none⟩ rfl ?_
     refine wpAnyH_done (by kernel_rfl) ?_ _
     clear hHeld
     clear hst hg5
     go_wp2_with fail
     go_meet
     case rel => exact ⟨g5, kk, rfl, rfl, HR.out⟩
    ·go_simp
     have hBa : Below wr.heap.size wr ((wr.alloc (.cells (Go.Proofs.YtehcehhfdhiomaaGreat.K.EC Go.Proofs.YtehcehhfdhiomaaGreat.K.en0) 48)).drew) := (below_drew1 wr).trans ((below_new wr.drew _).mono (Nat.le_refl _))
     have hXa : Go.Proofs.YtehcehhfdhiomaaGreat.K.Box ((wr.alloc (.cells (Go.Proofs.YtehcehhfdhiomaaGreat.K.EC Go.Proofs.YtehcehhfdhiomaaGreat.K.en0) 48)).drew) wr.heap.size 48 Go.Proofs.YtehcehhfdhiomaaGreat.K.en0 := Go.Proofs.YtehcehhfdhiomaaGreat.K.box_new wr.drew _ _
     obtain ⟨wa, hwa⟩ : ∃ wa, (wr.alloc (.cells (Go.Proofs.YtehcehhfdhiomaaGreat.K.EC Go.Proofs.YtehcehhfdhiomaaGreat.K.en0) 48)).drew = wa := ⟨_, rfl⟩
     have HSa := hide (HSt.out _ hBa)
     rw [hwa] at hBa hXa HSa
     refine hK.out _ _ (by first | exact HSa.out | (rw [← hwa] at HSa; exact HSa.out)) (fun hHeld => ?_)
     clear hK K
     refine wpAnyH_ready (rs := [8]) (by kernel_rfl) (by simp) (.cons rfl (fun K hK => ?_) .nil)
     go_simp
     go_wp2_with fail
     refine (Go.Proofs.YtehcehhfdhiomaaGreat.K.refFind_any g.ao g.an g.ac g.es e _ (HGr.out.es.below hBa)).mono ?_
     rintro y w4 ⟨kk, rfl, hix, b4⟩
     have hB4 : Below wr.heap.size wr w4 := hBa.trans (b4.mono hBa.size)
     have hX4 := hXa.below b4
     have hst := Go.Proofs.YtehcehhfdhiomaaGreat.K.run_st28 (e' := Go.Proofs.YtehcehhfdhiomaaGreat.K.fdE g.es kk) hX4
     obtain ⟨w5, hw5⟩ : ∃ w5, w4.setRow wr.heap.size (Go.Proofs.YtehcehhfdhiomaaGreat.K.EC (Go.Proofs.YtehcehhfdhiomaaGreat.K.fdE g.es kk)) = w5 := ⟨_, rfl⟩
     have X5 := hX4.setRow (e' := Go.Proofs.YtehcehhfdhiomaaGreat.K.fdE g.es kk)
     have hB5 : Below wr.heap.size wr (w4.setRow wr.heap.size (Go.Proofs.YtehcehhfdhiomaaGreat.K.EC (Go.Proofs.YtehcehhfdhiomaaGreat.K.fdE g.es kk))) := below_setRow hB4 (Nat.le_refl _)
     rw [hw5] at hst X5 hB5
     have HR : Hid (Go.Proofs.YtehcehhfdhiomaaGreat.K.IxOf g.es e kk ∧ Go.Proofs.YtehcehhfdhiomaaGreat.K.Box w5 wr.heap.size 48 (Go.Proofs.YtehcehhfdhiomaaGreat.K.fdE g.es kk) ∧ Below wr.heap.size wr w5) := ⟨hix, X5, hB5⟩
     have HS4 := hide (HSt.out _ hB4)
     have HS5 := hide (HSt.out _ hB5)
     refine hK.out _ _ HS4.out (fun hHeld => ?_)
     clear hK K b4 hB4 hB5 hix X5 hX4 hXa hBa hwa
     refine wTk 9 ⟨some 25, .move (.tmp 34), 103, "ref.go:71", #[⟨8, .data⟩], none⟩ rfl ?_
     refine wTk 10 ⟨some 35, .extract (.tmp 25) 0, 48, "ref.go:71", #[⟨9, .data⟩], none⟩ rfl ?_
     refine wTk 11 ⟨some 36, .extract (.tmp 25) 1, 4, "ref.go:71", #[⟨9, .data⟩, ⟨13, .gcOnly .lateStores⟩], none⟩ rfl ?_
     refine wpAnyH_ready (rs := [13]) (by kernel_rfl) (by simp) (.cons rfl (fun K hK => ?_) .nil)
     go_simp
     refine hK.out _ _ HS5.out (fun hHeld => ?_)
     clear hK K
     refine wTk 14 ⟨some 8, .assign (.tmp 36), 4, "ref.go:71", #[⟨11, .data⟩, ⟨13, .chain⟩, ⟨0, .phase⟩, ⟨1, .phase⟩, ⟨2, .phase⟩, ⟨3, .phase⟩, ⟨4, .phase⟩, ⟨5, .phase⟩, ⟨6, .phase⟩, ⟨7, .phase⟩, ⟨8, .phase⟩, ⟨9, .phase⟩, ⟨10, .phase⟩, ⟨11, .phase⟩, ⟨12, .phase⟩, ⟨13, .phase⟩], none⟩ rfl ?_
     refine wpAnyH_done (by kernel_rfl) ?_ _
     clear hHeld
     clear hst hw5
     go_wp2_with fail
     go_meet
     case rel => exact ⟨wr.heap.size, kk, rfl, rfl, HR.out⟩
   case rest =>
    obtain ⟨gx, kk, rfl, rfl, HQ⟩ := hcut
    rename World => wx
    have HBx := hide (HB.out.trans (HQ.out.2.2.mono HB.out.size))
    obtain ⟨hneg, hpos⟩ := find_cl HCg.out HQ.out.1
    have HS7 := hide (HSt.out wx HQ.out.2.2)
    by_cases hkk : kk < 0
    ·have hb : K.fdB kk = false := by unfold K.fdB; simp; omega
     rw [hb]
     have HN : Hid (∀ j, j < k + 1 → ¬ ClE (f.es.getD j K.en0) g) := fun j hj => by
      by_cases e2 : j = k
      ·rw [e2, He.out]; exact hneg hkk
      ·exact HK.out j (by omega)
     have HBn : Hid (Below wk.heap.size wk wx.drew) := HBx.out.trans ((below_drew1 wx).mono HBx.out.size)
     clear hneg hpos hb
     go_upto_region 7 with fail
     refine wp_region_held_drew (S := fun _ => True) (by kernel_rfl) (trivial) (fun hHeld => ?_)
     refine wTk 0 ⟨some 37, .move (.tmp 8), 4, "ref.go:72", #[], none⟩ rfl ?_
     refine wTk 1 ⟨some 38, .move (.tmp 37), 4, "ref.go:72", #[⟨0, .data⟩], none⟩ rfl ?_
     refine wSk 2 ⟨some 39, .load 48 (.tmp 7), 48, "ref.go:72", #[⟨1, .guard⟩], some (1, true)⟩ rfl ?_
     refine wSk 3 ⟨some 40, .fieldAddr 29 (.tmp 2) 0, 0, "ref.go:72", #[⟨1, .guard⟩], some (1, true)⟩ rfl ?_
     refine wSk 4 ⟨some 41, .load 22 (.tmp 40), 22, "ref.go:72", #[⟨3, .data⟩, ⟨1, .guard⟩], some (1, true)⟩ rfl ?_
     refine wSk 5 ⟨some 42, .move (.tmp 6), 3, "ref.go:72", #[⟨1, .guard⟩], some (1, true)⟩ rfl ?_
     refine wSk 6 ⟨some 43, .indexAddr 22 (.tmp 41) (.tmp 42), 0, "ref.go:72", #[⟨4, .data⟩, ⟨5, .data⟩, ⟨1, .guard⟩], some (1, true)⟩ rfl ?_
     refine wSk 7 ⟨some 44, .load 48 (.tmp 43), 48, "ref.go:72", #[⟨6, .data⟩, ⟨1, .guard⟩], some (1, true)⟩ rfl ?_
     refine wSk 8 ⟨some 45, .binOp .neq 48 (.tmp 39) (.tmp 44) 48, 4, "ref.go:72", #[⟨2, .data⟩, ⟨7, .data⟩, ⟨1, .guard⟩], some (1, true)⟩ rfl ?_
     refine wTk 9 ⟨some 46, .pick (.tmp 38) (.tmp 45) (.const (.bool false)), 4, "ref.go:72", #[⟨1, .data⟩, ⟨8, .data⟩], none⟩ rfl ?_
     refine wpAnyH_done (by kernel_rfl) ?_ _
     clear hHeld
     go_wp2_with fail
     go_roundw
     case rel => exact ⟨k + 1, Hlt.out, by simp, HN.out, HBn.out⟩
     case measure => simp [intOf]; have := Hlt.out; omega
    ·have hb : K.fdB kk = true := by unfold K.fdB; simp; omega
     rw [hb]
     obtain ⟨hsd, hcl⟩ := hpos (by omega)
     obtain ⟨y, Hy⟩ : ∃ y, Hid (K.fdE g.es kk = y) := ⟨_, rfl⟩
     rw [Hy.out] at hsd hcl HQ
     obtain ⟨q, hq⟩ : ∃ q, K.eqE y e = q := ⟨_, rfl⟩
     have leq : ∀ W : World, (Op.equalIn 10000 48 (K.EV y) (K.EV e)).run Tryz.prog W = .ok q W := fun W => by rw [← hq]; exact K.run_eq28 y e W
     rw [hq] at hcl
     have Hcl := hide hcl
     have Hsd := hide hsd
     clear hneg hpos hb hcl hsd hq
     go_upto_region 7 with fail
     refine wp_region_held_drew (S := fun W => (W.cell? ⟨G, 0, none⟩ = some (.slice (some ⟨b1, o1, none⟩) f.an f.ac)) ∧ (K.ld28 (.pointer (some ⟨b1, o1 + k * 4, none⟩))).run Tryz.prog W = .ok (K.EV e) W ∧ (K.ld28 (.pointer (some ⟨gx, 0, none⟩))).run Tryz.prog W = .ok (K.EV y) W) (by kernel_rfl) (⟨(HSt.out _ (HQ.out.2.2.trans ((below_drew1 wx).mono HQ.out.2.2.size))).1.1, (HSt.out _ (HQ.out.2.2.trans ((below_drew1 wx).mono HQ.out.2.2.size))).2.2, K.run_ld28 (HQ.out.2.1.below (below_drew1 wx)).at⟩) (fun hHeld => ?_)
     refine wTk 0 ⟨some 37, .move (.tmp 8), 4, "ref.go:72", #[], none⟩ rfl ?_
     refine wTk 1 ⟨some 38, .move (.tmp 37), 4, "ref.go:72", #[⟨0, .data⟩], none⟩ rfl ?_
     refine wTk 2 ⟨some 39, .load 48 (.tmp 7), 48, "ref.go:72", #[⟨1, .guard⟩], some (1, true)⟩ rfl ?_
     refine wTk 3 ⟨some 40, .fieldAddr 29 (.tmp 2) 0, 0, "ref.go:72", #[⟨1, .guard⟩], some (1, true)⟩ rfl ?_
     refine wTk 4 ⟨some 41, .load 22 (.tmp 40), 22, "ref.go:72", #[⟨3, .data⟩, ⟨1, .guard⟩], some (1, true)⟩ rfl ?_
     refine wTk 5 ⟨some 42, .move (.tmp 6), 3, "ref.go:72", #[⟨1, .guard⟩], some (1, true)⟩ rfl ?_
     refine wTk 6 ⟨some 43, .indexAddr 22 (.tmp 41) (.tmp 42), 0, "ref.go:72", #[⟨4, .data⟩, ⟨5, .data⟩, ⟨1, .guard⟩], some (1, true)⟩ rfl ?_
     refine wTk 7 ⟨some 44, .load 48 (.tmp 43), 48, "ref.go:72", #[⟨6, .data⟩, ⟨1, .guard⟩], some (1, true)⟩ rfl ?_
     cases q with
     | true =>
      have HN : Hid (∀ j, j < k + 1 → ¬ ClE (f.es.getD j K.en0) g) := fun j hj => by
       by_cases e2 : j = k
       ·rw [e2, He.out]; exact fun h => (by have := Hcl.out.1 h; cases this)
       ·exact HK.out j (by omega)
      have HBn : Hid (Below wk.heap.size wk wx.drew) := HBx.out.trans ((below_drew1 wx).mono HBx.out.size)
      refine wTk 8 ⟨some 45, .binOp .neq 48 (.tmp 39) (.tmp 44) 48, 4, "ref.go:72", #[⟨2, .data⟩, ⟨7, .data⟩, ⟨1, .guard⟩], some (1, true)⟩ rfl ?_
      refine wTk 9 ⟨some 46, .pick (.tmp 38) (.tmp 45) (.const (.bool false)), 4, "ref.go:72", #[⟨1, .data⟩, ⟨8, .data⟩], none⟩ rfl ?_
      refine wpAnyH_done (by kernel_rfl) ?_ _
      clear hHeld
      clear leq
      go_wp2_with fail
      go_roundw
      case rel => exact ⟨k + 1, Hlt.out, by simp, HN.out, HBn.out⟩
      case measure => simp [intOf]; have := Hlt.out; omega
     | false =>
      refine wTk 8 ⟨some 45, .binOp .neq 48 (.tmp 39) (.tmp 44) 48, 4, "ref.go:72", #[⟨2, .data⟩, ⟨7, .data⟩, ⟨1, .guard⟩], some (1, true)⟩ rfl ?_
      refine wTk 9 ⟨some 46, .pick (.tmp 38) (.tmp 45) (.const (.bool false)), 4, "ref.go:72", #[⟨1, .data⟩, ⟨8, .data⟩], none⟩ rfl ?_
      refine wpAnyH_done (by kernel_rfl) ?_ _
      clear hHeld
      clear leq
      have hde : dotE y = dotE e := by
       have h := Hsd.out
       unfold K.sameDot at h
       simp only [Bool.and_eq_true, beq_iff_eq] at h
       unfold dotE
       rw [h.1, h.2]
      have hBw : Below wk.heap.size wk wx.drew := HBx.out.trans ((below_drew1 wx).mono HBx.out.size)
      have hyb := (HQ.out.2.1.below (below_drew1 wx)).at
      have ldy : (ldD (.pointer (some ⟨gx, 0, none⟩))).run Tryz.prog wx.drew = .ok (RV (dotE y)) wx.drew := run_ldD ⟨hyb.c0, hyb.c1⟩
      rw [hde] at ldy
      have stz := run_stD (r' := dotE e) (HZ.out.below hBw)
      have HE := hide (give_cl (w := w) (d := dotE e) (b := true) (HZ.out.below hBw) (HBK.out.trans (hBw.mono HBK.out.size)) (by rw [HGs.out]; omega) (.inr ⟨H1.out, H2.out, .inr ⟨rfl, k, Hlt.out, by rw [He.out]; exact Hcl.out.2 rfl, HK.out, by rw [He.out]⟩⟩ : ClOf f g (dotE e) true))
      clear hde hBw hyb
      go_wp2_with fail
      clear ldy stz
      refine bodyPost_ret (resD2 rfl rfl rfl HE.out.1) rfl ?_
      exact HE.out.2
  ·have hlti : ¬ (k : Int) < (f.an : Int) := by omega
   have hkk : k = f.an := by omega
   have st0 := run_stD (r' := rn0) (HZ.out.below HB.out)
   have HE := hide (give_cl (w := w) (d := rn0) (b := false) (HZ.out.below HB.out) (HBK.out.trans (HB.out.mono HBK.out.size)) (by rw [HGs.out]; omega) (.inr ⟨H1.out, H2.out, .inl ⟨rfl, rfl, by rw [← hkk]; exact HK.out⟩⟩ : ClOf f g rn0 false))
   go_wp2_with fail
   clear st0
   refine bodyPost_ret (resD2 rfl rfl rfl HE.out.1) rfl ?_
   exact HE.out.2
end Go.Proofs.YtehcehhfdhiomaaGreat
namespace Go.Proofs.YtehcehhfdhiomaaGreat
open Go.RowKit
attribute [local go_sem ↓] K.ld28_eq K.st28_eq K.run_eq28 ldP_eq stP_eq ldRe_eq stRe_eq
attribute [local go_sem] K.zero_EC K.cells_EV cells_PV PC_size
def EqF (f g : Fc) : Prop := f.es = g.es ∧ f.p.P = g.p.P ∧ plR f.rs = plR g.rs
attribute [local go_sem ↓] ldFa_eq stFa_eq
attribute [local go_sem] cells_FaV FaC_size
end Go.Proofs.YtehcehhfdhiomaaGreat
namespace Go.Proofs.YtehcehhfdhiomaaGreat
open Go.RowKit
structure IsF (h : Fc) (E : K.En → Prop) (M : Nat → Int → Prop) (R : Rp → Prop) : Prop where
 form : FormF h
 len : h.es.length = h.an ∧ h.rs.length = h.rn
 es : ∀ x, x ∈ h.es ↔ E x
 p : ∀ r, r < 16 → ∀ n, mem (runsAt h.p.P r) n ↔ M r n
 rs : ∀ y, y ∈ plR h.rs ↔ R y
theorem IsF.chk {h : Fc} {E : K.En → Prop} {M : Nat → Int → Prop} {R : Rp → Prop} (i : IsF h E M R) : K.chk h.es = 0 := (chk_okN i.len.1).2 i.form.1
def WellF (f g : Fc) : Prop := FormF f ∧ FormF g ∧ ∀ e ∈ f.es, ¬ ClE e g
theorem sameDot_symm {x y : K.En} (h : K.sameDot x y = true) : K.sameDot y x = true := by
 unfold K.sameDot at h ⊢
 simp only [Bool.and_eq_true, beq_iff_eq] at h ⊢
 exact ⟨h.1.symm, h.2.symm⟩
theorem sameDot_dotOf {x y : K.En} (h : K.sameDot x y = true) : dotOf x = dotOf y := by
 unfold K.sameDot at h
 simp only [Bool.and_eq_true, beq_iff_eq] at h
 unfold dotOf
 rw [h.1, h.2]
theorem join_isF {w w0 : World} {c : Int} {f g h : Fc} {er : Int} (hf : FcOk w0 f) (hg : FcOk w0 g) (hh : FcOk w h) (W : WellF f g) (J : JnOf c f g h er) :
  er = 0 ∧ h.rn ≤ f.rn + g.rn ∧ IsF h (fun x => x ∈ f.es ∨ x ∈ g.es) (fun r n => mem (runsAt f.p.P r) n ∨ mem (runsAt g.p.P r) n) (fun y => y ∈ plR f.rs ∨ y ∈ plR g.rs) := by
 have cf := (chk_okN hf.es.1).2 W.1.1
 have cg := (chk_okN hg.es.1).2 W.2.1.1
 rcases J with ⟨h1, -⟩ | ⟨-, -, R, e, u, J⟩
 ·exact absurd ⟨W.1, W.2.1⟩ h1
 rcases u with ⟨h1, -⟩ | ⟨-, u⟩
 ·exact absurd ⟨cf, cg⟩ h1
 rcases u with ⟨⟨x, hx, y, hy, hd, hne⟩, -⟩ | ⟨-, rfl, hasc, hm⟩
 ·exfalso
  rcases List.mem_append.1 hx with hx | hx <;> rcases List.mem_append.1 hy with hy | hy
  ·exact hne (dot_one cf hx hy (sameDot_dotOf hd))
  ·exact W.2.2 x hx ⟨y, hy, sameDot_symm hd, fun q => hne q.symm⟩
  ·exact W.2.2 y hy ⟨x, hx, hd, hne⟩
  ·exact hne (dot_one cg hx hy (sameDot_dotOf hd))
 ·rcases J with ⟨h1, -⟩ | ⟨-, rfl, he, hc, hu, hn⟩
  ·exact absurd rfl h1
  have hm2 : ∀ x, x ∈ h.es ↔ x ∈ f.es ∨ x ∈ g.es := fun x => by rw [he, hm x, List.mem_append]
  have hce : ∀ x ∈ h.es, K.ceE x = 0 := fun x hx => ((hm2 x).1 hx).elim (chk_ce cf x) (chk_ce cg x)
  refine ⟨rfl, hn, ⟨⟨(chk_okN hh.es.1).1 (K.chk_asc (by rw [he]; exact hasc) hce), canon_iff.1 hc.canon, by have := hu.ok; rwa [hh.rs.len] at this⟩, ⟨hh.es.1, hh.rs.len⟩, hm2, fun r hr n => ?_, hu.1.2⟩⟩
  rw [canon_mem hc r hr n]
  show mem (runsAt f.p.P r ++ (runsAt g.p.P r ++ [])) n ↔ _
  rw [List.append_nil, mem_append]
theorem ClOf.well {f g : Fc} {d : Rn} {b : Bool} {w : World} (hf : FcOk w f) (h1 : FormF f) (h2 : FormF g) (h : ClOf f g d b) : b = false ↔ WellF f g := by
 rcases h with ⟨h, -⟩ | ⟨-, -, ⟨rfl, -, h⟩ | ⟨rfl, i, h3, h4, -⟩⟩
 ·exact absurd ⟨h1, h2⟩ h
 ·refine ⟨fun _ => ⟨h1, h2, fun e he => ?_⟩, fun _ => rfl⟩
  obtain ⟨j, hj, rfl⟩ := List.getElem_of_mem he
  have := h j (by rw [← hf.es.1]; exact hj)
  rw [List.getD_eq_getElem?_getD, List.getElem?_eq_getElem hj] at this
  exact this
 ·refine ⟨fun h => (by cases h), fun h => absurd h4 (h.2.2 _ (getE_mem (by rw [hf.es.1]; exact h3)))⟩
attribute [local go_sem ↓] ldFa_eq stFa_eq ldD_eq stD_eq
attribute [local go_sem] cells_FaV FaC_size cells_RV RC_size zero_RC
set_option maxRecDepth 100000 in
theorem well_any (f g : Fc) (w : World) (hF : FcOk w f) (hG : FcOk w g) : Calls Tryz.prog 16 #[FaV (mkF f), FaV (mkF g)] w fun e w' => GivesB w w' e (WellF f g) := by
 obtain ⟨wk, hwk, HX, HY, HBK⟩ := box2F w f g
 have HF := hide (hF.below HBK.out)
 have HG := hide (hG.below HBK.out)
 clear hF hG
 have lf := run_ldFa HX.out
 go_enter Tryz.func16, Tryz.ntmps16
 go_wp2_with fail
 clear hwk
 refine (refCheckF_any f _ HF.out).mono ?_
 rintro e w1 ⟨x, rfl, hx, b1⟩
 have HB1 := hide b1
 clear b1 lf
 rcases hx with ⟨rfl, h1⟩ | ⟨rfl, h1⟩
 rotate_left
 ·have HE : Hid (GivesB w w1 (.returned (.bool false)) (WellF f g)) := ⟨false, rfl, ⟨fun h => (by cases h), fun h => absurd h.1 h1⟩, HBK.out.trans (HB1.out.mono HBK.out.size)⟩
  clear h1
  go_wp2_with fail
  go_ret
  exact HE.out
 have H1 := hide h1
 clear h1
 have lg := run_ldFa (HY.out.below HB1.out)
 go_wp2_with fail
 refine (refCheckF_any g _ (HG.out.below HB1.out)).mono ?_
 rintro e w2 ⟨x, rfl, hx, b2⟩
 have HB2 := hide (HB1.out.trans (b2.mono HB1.out.size))
 clear b2 lg HB1
 rcases hx with ⟨rfl, h1⟩ | ⟨rfl, h1⟩
 rotate_left
 ·have HE : Hid (GivesB w w2 (.returned (.bool false)) (WellF f g)) := ⟨false, rfl, ⟨fun h => (by cases h), fun h => absurd h.2.1 h1⟩, HBK.out.trans (HB2.out.mono HBK.out.size)⟩
  clear h1
  go_wp2_with fail
  go_ret
  exact HE.out
 have H2 := hide h1
 clear h1
 have lf := run_ldFa (HX.out.below HB2.out)
 have lg := run_ldFa (HY.out.below HB2.out)
 go_wp2_with fail
 clear lf lg
 refine (refClash_any f g _ (HF.out.below HB2.out) (HG.out.below HB2.out)).mono ?_
 rintro e w3 ⟨d, b, rfl, hcl, b3⟩
 have hw := hcl.well HF.out H1.out H2.out
 obtain ⟨g4, hg4⟩ : ∃ g4, w3.heap.size = g4 := ⟨_, rfl⟩
 obtain ⟨w4, hst, X4, B4, -⟩ := madeD w3 d g4 hg4
 have HB4 := hide (HBK.out.trans ((HB2.out.trans ((b3.trans (B4.mono b3.size)).mono HB2.out.size)).mono HBK.out.size))
 clear hcl b3 X4 B4
 cases b with
 | false =>
  have HE : Hid (GivesB w w4 (.returned (.bool true)) (WellF f g)) := ⟨true, rfl, ⟨fun _ => hw.1 rfl, fun _ => rfl⟩, HB4.out⟩
  clear hw
  go_wp2_with fail
  go_ret
  exact HE.out
 | true =>
  have HE : Hid (GivesB w w4 (.returned (.bool false)) (WellF f g)) := ⟨false, rfl, ⟨fun h => (by cases h), fun h => (by have := hw.2 h; cases this)⟩, HB4.out⟩
  clear hw
  go_wp2_with fail
  go_ret
  exact HE.out
end Go.Proofs.YtehcehhfdhiomaaGreat
