/- TCl TAo -/
import Derived.Test.YtalpnhfoaohhhaaGreatTk
import Derived.Test.YtalpnhfoaohhhaaGreatTj30
import Derived.Test.YtalpnhfoaohhhaaGreatTj37
import Derived.Test.YtalpnhfoaohhhaaGreatTj21
import Derived.Test.YtalpnhfoaohhhaaGreatTj16
import Derived.Test.YtalpnhfoaohhhaaGreatTj33
import Derived.Deep.CutRange
set_option maxRecDepth 100000
set_option maxHeartbeats 6400000
namespace Go.Proofs.YtalpnhfoaohhhaaGreat
section
open Go.RowKit
def ClE (e : K.En) (g : Fc) : Prop := ∃ y ∈ g.es, K.sameDot y e = true /\ y ≠ e
def dotE (e : K.En) : Rn := ⟨e.rep, e.num⟩
def ClOf (f g : Fc) (d : Rn) (b : Bool) : Prop := (¬ (FormF f /\ FormF g) /\ d = rn0 /\ b = false) ∨ (FormF f /\ FormF g /\ ((b = false /\ d = rn0 /\ ∀ i, i < f.an -> ¬ ClE (f.es.getD i K.en0) g) ∨ (b = true /\ ∃ i, i < f.an /\ ClE (f.es.getD i K.en0) g /\ (∀ j, j < i -> ¬ ClE (f.es.getD j K.en0) g) /\ d = dotE (f.es.getD i K.en0))))
theorem ClOf.unique {f g : Fc} {d d' : Rn} {b b' : Bool} (h : ClOf f g d b) (h' : ClOf f g d' b') : d = d' /\ b = b' := by
 rcases h with ⟨h1, rfl, rfl⟩ | ⟨h1, h2, ⟨rfl, rfl, h3⟩ | ⟨rfl, i, h3, h4, h5, rfl⟩⟩ <;> rcases h' with ⟨g1, rfl, rfl⟩ | ⟨g1, g2, ⟨rfl, rfl, g3⟩ | ⟨rfl, j, g3, g4, g5, rfl⟩⟩
 ·exact ⟨rfl, rfl⟩
 ·exact absurd ⟨g1, g2⟩ h1
 ·exact absurd ⟨g1, g2⟩ h1
 ·exact absurd ⟨h1, h2⟩ g1
 ·exact ⟨rfl, rfl⟩
 ·exact absurd g4 (h3 j g3)
 ·exact absurd ⟨h1, h2⟩ g1
 ·exact absurd h4 (g3 i h3)
 ·obtain rfl : i = j := by
   rcases Nat.lt_trichotomy i j with q | q | q
   ·exact absurd h4 (g5 i q)
   ·exact q
   ·exact absurd g4 (h5 j q)
  exact ⟨rfl, rfl⟩
def ClA (w w' : World) (x : Ending) (f g : Fc) : Prop := ∃ (d : Rn) (b : Bool), x = .returned (.tuple #[RV d, .bool b]) /\ ClOf f g d b /\ Below w.heap.size w w'
theorem getE_mem {L : List K.En} {k : Nat} (h : k < L.length) : L.getD k K.en0 ∈ L := by
 rw [List.getD_eq_getElem?_getD, List.getElem?_eq_getElem h]; exact List.getElem_mem h
theorem eqE_iff2 (x y : K.En) : K.eqE x y = true ↔ x = y := by
 constructor
 ·intro h
  unfold K.eqE at h
  simp only [Bool.and_eq_true, beq_iff_eq] at h
  obtain ⟨⟨⟨h1, h2⟩, h3⟩, h4⟩ := h
  have h5 := list_ext h3
  cases x; cases y; simp_all
 ·rintro rfl; exact K.eqE_self _
theorem find_cl {e : K.En} {g : Fc} {k : Int} (hc : K.chk g.es = 0) (h : K.IxOf g.es e k) : (k < 0 -> ¬ ClE e g) /\ (0 <= k -> K.sameDot (K.fdE g.es k) e = true /\ (ClE e g ↔ K.eqE (K.fdE g.es k) e = false)) := by
 rcases h with ⟨rfl, h1⟩ | ⟨i, h1, rfl, h2, -⟩
 ·refine ⟨fun _ => ?_, fun h => absurd h (by decide)⟩
  rintro ⟨y, hy, hd, -⟩
  obtain ⟨j, hj, rfl⟩ := List.getElem_of_mem hy
  have := h1 j hj
  rw [List.getD_eq_getElem?_getD, List.getElem?_eq_getElem hj] at this
  simp only [Option.getD_some] at this
  rw [this] at hd; cases hd
 ·refine ⟨fun h => absurd h (by omega), fun _ => ?_⟩
  have e1 : K.fdE g.es (i : Int) = g.es.getD i K.en0 := by unfold K.fdE; rw [if_neg (by omega), Int.toNat_natCast]
  rw [e1]
  refine ⟨h2, ?_, fun h => ⟨_, getE_mem h1, h2, fun e2 => by rw [(eqE_iff2 _ _).2 e2] at h; cases h⟩⟩
  rintro ⟨y, hy, hd, hne⟩
  have hdd : dotOf y = dotOf (g.es.getD i K.en0) := by
   unfold K.sameDot at hd h2
   simp only [Bool.and_eq_true, beq_iff_eq] at hd h2
   unfold dotOf
   rw [hd.1, hd.2, h2.1, h2.2]
  have := dot_one hc hy (getE_mem h1) hdd
  cases hq : K.eqE (g.es.getD i K.en0) e with
  | false => rfl
  | true => exact absurd (by rw [this]; exact (eqE_iff2 _ _).1 hq) hne
attribute [local go_sem ↓] ldP_eq stP_eq ldFa_eq stFa_eq ldD_eq stD_eq K.ld28_eq K.st28_eq
attribute [local go_sem] cells_PV PC_size cells_FaV FaC_size cells_RV RC_size zero_RC fold_RC K.zero_EC K.cells_EV K.EC_size
def bldDz (a : Array (Nat × Value)) : Sem Value := Instr.build 32 a
theorem bldDz_eq (a : Array (Nat × Value)) : Instr.build 32 a = bldDz a := rfl
theorem run_bldDz (w : World) : (bldDz #[]).run Tryz.prog w = .ok (RV rn0) w := by kernel_rfl
attribute [local go_sem ↓] bldDz_eq
attribute [local go_sem] run_bldDz
theorem resD2 {w : World} {g : Nat} {fn : Func} {p q : Tmp} {m : Rn} {v : Value} (h : fn.results = #[.cell p 32, .tmp q]) {tmps : Array Value} (hp : tmps.getD p undef = .pointer (some ⟨g, 0, none⟩)) (hq : tmps.getD q undef = v) (A : Box w g 32 m) :
  (results fn tmps).run Tryz.prog w = .ok (.tuple #[RV m, v]) w := by
 have hl : (loadVar 32 ⟨g, 0, none⟩).run Tryz.prog w = .ok (RV m) w := run_ldD A.at
 simp only [results, h]
 rw [Array.getD_eq_getD_getElem?] at hp hq
 simp [hp, hq, asAddr, hl]
theorem box3D (w : World) (f g : Fc) : ∃ wk, ((w.alloc (.cells (FaC (mkF f)) 29)).alloc (.cells (FaC (mkF g)) 29)).alloc (.cells (RC rn0) 32) = wk /\ Hid (FaBox wk w.heap.size (mkF f)) /\ Hid (FaBox wk (w.heap.size + 1) (mkF g)) /\ Hid (Box wk (w.heap.size + 2) 32 rn0) /\ Hid (Below w.heap.size w wk) := by
 obtain ⟨w2, hw2, HX2, HY2, HB2⟩ := box2F w f g
 have b3 := below_new w2 (.cells (RC rn0) 32)
 have hs2 : w2.heap.size = w.heap.size + 2 := by rw [<- hw2]; simp
 refine ⟨_, rfl, ?_, ?_, ?_, ?_⟩ <;> rw [hw2]
 ·exact HX2.out.below b3
 ·exact HY2.out.below b3
 ·have h := box_new w2 32 rn0
  rw [hs2] at h
  exact h
 ·exact HB2.out.trans (b3.mono HB2.out.size)
theorem give_cl {w W : World} {gg : Nat} {m0 d : Rn} {f g : Fc} {b : Bool} (hX : Box W gg 32 m0) (hb : Below w.heap.size w W) (hg : w.heap.size <= gg) (hD : ClOf f g d b) :
  Box (W.setRow gg (RC d)) gg 32 d /\ ClA w (W.setRow gg (RC d)) (.returned (.tuple #[RV d, .bool b])) f g :=
 ⟨hX.setRow, d, b, rfl, hD, below_setRow hb hg⟩
theorem refClash_any (f g : Fc) (w : World) (hF : FcOk w f) (hG : FcOk w g) :
  Calls Tryz.prog 14 #[FaV (mkF f), FaV (mkF g)] w fun e w' => ClA w w' e f g := by
 obtain ⟨wk, hwk, HX, HY, HZ, HBK⟩ := box3D w f g
 have HF := hide (hF.below HBK.out)
 have HG := hide (hG.below HBK.out)
 clear hF hG
 obtain ⟨G, hG0⟩ : ∃ G, w.heap.size = G := ⟨_, rfl⟩
 rw [hG0] at HX HY HZ
 have HGs : Hid (w.heap.size = G) := hG0
 have lf := run_ldFa HX.out
 go_enter Tryz.func14, Tryz.ntmps14
 go_wp2_with fail
 clear hwk hG0
 refine (refCheckF_any f _ HF.out).mono ?_
 rintro e w1 ⟨x, rfl, hx, b1⟩
 have HB1 := hide b1
 clear b1 lf
 rcases hx with ⟨rfl, h1⟩ | ⟨rfl, h1⟩
 rotate_left
 ·have st0 := run_stD (r' := rn0) (HZ.out.below HB1.out)
  have HE := hide (give_cl (w := w) (d := rn0) (b := false) (HZ.out.below HB1.out) (HBK.out.trans (HB1.out.mono HBK.out.size)) (by rw [HGs.out]; omega) (.inl ⟨fun h => h1 h.1, rfl, rfl⟩ : ClOf f g rn0 false))
  clear h1
  go_wp2_with fail
  clear st0
  refine bodyPost_ret (resD2 rfl rfl rfl HE.out.1) rfl ?_
  exact HE.out.2
 have H1 := hide h1
 clear h1
 have lg := run_ldFa (HY.out.below HB1.out)
 go_wp2_with fail
 refine (refCheckF_any g _ (HG.out.below HB1.out)).mono ?_
 rintro e w2 ⟨x, rfl, hx, b2⟩
 have HB2 := hide (HB1.out.trans (b2.mono HB1.out.size))
 clear b2 lg HB1
 rcases hx with ⟨rfl, h1⟩ | ⟨rfl, h1⟩
 rotate_left
 ·have st0 := run_stD (r' := rn0) (HZ.out.below HB2.out)
  have HE := hide (give_cl (w := w) (d := rn0) (b := false) (HZ.out.below HB2.out) (HBK.out.trans (HB2.out.mono HBK.out.size)) (by rw [HGs.out]; omega) (.inl ⟨fun h => h1 h.2, rfl, rfl⟩ : ClOf f g rn0 false))
  clear h1
  go_wp2_with fail
  clear st0
  refine bodyPost_ret (resD2 rfl rfl rfl HE.out.1) rfl ?_
  exact HE.out.2
 have H2 := hide h1
 clear h1
 have HCg : Hid (K.chk g.es = 0) := (chk_okN HG.out.es.1).2 H2.out.1
 have hanb : f.an <= 3518437208883 := HF.out.es.2.2.2.2
 go_wp2_with fail
 go_loopw [6] (fun i wr => ∃ k : Nat, k <= f.an /\ i = .int .i64 (k : Int) /\ Hid (∀ j, j < k -> ¬ ClE (f.es.getD j K.en0) g) /\ Hid (Below wk.heap.size wk wr)) (fun i _ => f.an - (intOf i).toNat)
 case atStart => exact ⟨0, Nat.zero_le _, rfl, (fun j hj => absurd hj (Nat.not_lt_zero j)), HB2.out⟩
 case round =>
  obtain ⟨k, hk, rfl, HK, HB⟩ := hrel
  rename World => wr
  clear HB2
  obtain ⟨c0, c3⟩ := (HX.out.below HB.out).cs
  obtain ⟨d0, d3⟩ := (HY.out.below HB.out).cs
  by_cases hlt : k < f.an
  ·have hlti : (k : Int) < (f.an : Int) := by omega
   obtain ⟨ad, hao, A0⟩ := (HF.out.es.below HB.out).at k hlt
   obtain ⟨b1, o1, rfl⟩ : ∃ b o, ad = ⟨b, o, none⟩ := by
    have h0 := (HF.out.es.below HB.out).at 0 (by omega)
    obtain ⟨ad0, hao0, A00⟩ := h0
    rw [hao] at hao0
    obtain rfl := Option.some.inj hao0
    have hsp := World.cell?_spot A00.c0
    rw [Nat.zero_mul, K.add_zero] at hsp
    obtain ⟨b, o, sp⟩ := ad
    have hsp2 : sp = none := hsp
    subst hsp2
    exact ⟨b, o, rfl⟩
   rw [Addr.add_lit] at A0
   obtain ⟨e, He⟩ : ∃ e, Hid (f.es.getD k K.en0 = e) := ⟨_, rfl⟩
   rw [He.out] at A0
   rw [hao] at c0
   have HA := hide A0
   have HSt : Hid (∀ W, Below wr.heap.size wr W -> (W.cell? ⟨G, 0, none⟩ = some (.slice (some ⟨b1, o1, none⟩) f.an f.ac) /\ W.cell? ⟨G + 1, 0, none⟩ = some (.slice g.ao g.an g.ac)) /\ (ldD (.pointer (some ⟨b1, o1 + k * 4, none⟩))).run Tryz.prog W = .ok (.agg (K.DC e)) W /\ (K.ld28 (.pointer (some ⟨b1, o1 + k * 4, none⟩))).run Tryz.prog W = .ok (K.EV e) W) := fun W hW => by
    have hA := HA.out.on hW
    have hl : (ldD (.pointer (some ⟨b1, o1 + k * 4, none⟩))).run Tryz.prog W = .ok (RV (dotE e)) W := run_ldD ⟨hA.c0, hA.c1⟩
    exact ⟨⟨by rw [hW.cell (World.block_lt_of_cell? _ _ c0)]; exact c0, by rw [hW.cell (World.block_lt_of_cell? _ _ d0)]; exact d0⟩, hl, K.run_ld28 hA⟩
   have Hlt := hide hlt
   have HGr := hide (HG.out.below HB.out)
   clear A0 hao hlt hk c3 d3
   go_upto_region 6 with fail
   go_cut [7, 8] from 18 to 48 (fun p q wx => ∃ (gx : Nat) (kk : Int), p = .pointer (some ⟨gx, 0, none⟩) /\ q = .bool (K.fdB kk) /\ Hid (K.IxOf g.es e kk /\ K.Box wx gx 36 (K.fdE g.es kk) /\ Below wr.heap.size wr wx))
   case first =>
    refine wp_region_held_drew (S := fun W => (W.cell? ⟨G, 0, none⟩ = some (.slice (some ⟨b1, o1, none⟩) f.an f.ac) /\ W.cell? ⟨G + 1, 0, none⟩ = some (.slice g.ao g.an g.ac)) /\ (ldD (.pointer (some ⟨b1, o1 + k * 4, none⟩))).run Tryz.prog W = .ok (.agg (Go.Proofs.YtalpnhfoaohhhaaGreat.K.DC e)) W /\ (Go.Proofs.YtalpnhfoaohhhaaGreat.K.ld28 (.pointer (some ⟨b1, o1 + k * 4, none⟩))).run Tryz.prog W = .ok (Go.Proofs.YtalpnhfoaohhhaaGreat.K.EV e) W) (by kernel_rfl) (HSt.out _ (below_drew1 wr)) (fun hHeld => ?_)
    refine wTk 0 ⟨some 26, .fieldAddr 29 (.tmp 3) 0, 0, "ref.go:71", #[], none⟩ rfl ?_
    refine wTk 1 ⟨some 27, .load 22 (.tmp 26), 22, "ref.go:71", #[⟨0, .data⟩], none⟩ rfl ?_
    refine wTk 2 ⟨some 28, .fieldAddr 29 (.tmp 2) 0, 0, "ref.go:71", #[], none⟩ rfl ?_
    refine wTk 3 ⟨some 29, .load 22 (.tmp 28), 22, "ref.go:71", #[⟨2, .data⟩], none⟩ rfl ?_
    refine wTk 4 ⟨some 30, .move (.tmp 6), 3, "ref.go:71", #[], none⟩ rfl ?_
    refine wTk 5 ⟨some 31, .indexAddr 22 (.tmp 29) (.tmp 30), 0, "ref.go:71", #[⟨3, .data⟩, ⟨4, .data⟩], none⟩ rfl ?_
    refine wTk 6 ⟨some 32, .fieldAddr 36 (.tmp 31) 0, 0, "ref.go:71", #[⟨5, .data⟩], none⟩ rfl ?_
    refine wTk 7 ⟨some 33, .load 32 (.tmp 32), 32, "ref.go:71", #[⟨6, .data⟩], none⟩ rfl ?_
    refine wpAnyH_ready (rs := [8, 12]) (by kernel_rfl) (by simp) ?_
    refine AllReadyH.cons rfl (fun K hK => ?_) (AllReadyH.cons rfl (fun K hK => ?_) AllReadyH.nil)
    ·go_simp
     go_wp2_with fail
     refine (Go.Proofs.YtalpnhfoaohhhaaGreat.K.refFind_any g.ao g.an g.ac g.es e _ (HGr.out.es.below (below_drew1 wr))).mono ?_
     rintro y w4 ⟨kk, rfl, hix, b4⟩
     have hB4 : Below wr.heap.size wr w4 := (below_drew1 wr).trans b4
     obtain ⟨g5, hg5⟩ : ∃ g5, w4.heap.size = g5 := ⟨_, rfl⟩
     obtain ⟨w5, hst, X5, B5, -⟩ := Go.Proofs.YtalpnhfoaohhhaaGreat.K.made w4 (Go.Proofs.YtalpnhfoaohhhaaGreat.K.fdE g.es kk) g5 hg5
     have hB5 : Below wr.heap.size wr w5 := hB4.trans (B5.mono hB4.size)
     have ha5 : Below wr.heap.size wr (w4.alloc (.cells (Go.Proofs.YtalpnhfoaohhhaaGreat.K.EC Go.Proofs.YtalpnhfoaohhhaaGreat.K.en0) 36)) := hB4.trans ((below_new w4 _).mono hB4.size)
     have HR : Hid (Go.Proofs.YtalpnhfoaohhhaaGreat.K.IxOf g.es e kk /\ Go.Proofs.YtalpnhfoaohhhaaGreat.K.Box w5 g5 36 (Go.Proofs.YtalpnhfoaohhhaaGreat.K.fdE g.es kk) /\ Below wr.heap.size wr w5) := ⟨hix, X5, hB5⟩
     have HS4 := hide (HSt.out _ hB4)
     have HSa := hide (HSt.out _ ha5)
     have HS5 := hide (HSt.out _ hB5)
     refine hK.out _ _ HS4.out (fun hHeld => ?_)
     clear hK K b4 hB4 hB5 ha5 hix X5 B5
     refine wTk 9 ⟨some 25, .move (.tmp 34), 50, "ref.go:71", #[⟨8, .data⟩], none⟩ rfl ?_
     refine wTk 10 ⟨some 35, .extract (.tmp 25) 0, 36, "ref.go:71", #[⟨9, .data⟩], none⟩ rfl ?_
     refine wTk 11 ⟨some 36, .extract (.tmp 25) 1, 4, "ref.go:71", #[⟨9, .data⟩, ⟨13, .gcOnly .lateStores⟩], none⟩ rfl ?_
     refine wpAnyH_ready (rs := [12]) (by kernel_rfl) (by simp) (.cons rfl (fun K hK => ?_) .nil)
     go_simp
     refine hK.out _ _ HSa.out (fun hHeld => ?_)
     clear hK K
     refine wpAnyH_ready (rs := [13]) (by kernel_rfl) (by simp) (.cons rfl (fun K hK => ?_) .nil)
     go_simp
     refine hK.out _ _ HS5.out (fun hHeld => ?_)
     clear hK K
     refine wTk 14 ⟨some 8, .assign (.tmp 36), 4, "ref.go:71", #[⟨11, .data⟩, ⟨13, .chain⟩, ⟨0, .phase⟩, ⟨1, .phase⟩, ⟨2, .phase⟩, ⟨3, .phase⟩, ⟨4, .phase⟩, ⟨5, .phase⟩, ⟨6, .phase⟩, ⟨7, .phase⟩, ⟨8, .phase⟩, ⟨9, .phase⟩, ⟨10, .phase⟩, ⟨11, .phase⟩, ⟨12, .phase⟩, ⟨13, .phase⟩], none⟩ rfl ?_
     refine wpAnyH_done (by kernel_rfl) ?_ _
     clear hHeld
     clear hst hg5
     go_wp2_with fail
     go_meet
     case rel => exact ⟨g5, kk, rfl, rfl, HR.out⟩
    ·go_simp
     have hBa : Below wr.heap.size wr ((wr.alloc (.cells (Go.Proofs.YtalpnhfoaohhhaaGreat.K.EC Go.Proofs.YtalpnhfoaohhhaaGreat.K.en0) 36)).drew) := (below_drew1 wr).trans ((below_new wr.drew _).mono (Nat.le_refl _))
     have hXa : Go.Proofs.YtalpnhfoaohhhaaGreat.K.Box ((wr.alloc (.cells (Go.Proofs.YtalpnhfoaohhhaaGreat.K.EC Go.Proofs.YtalpnhfoaohhhaaGreat.K.en0) 36)).drew) wr.heap.size 36 Go.Proofs.YtalpnhfoaohhhaaGreat.K.en0 := Go.Proofs.YtalpnhfoaohhhaaGreat.K.box_new wr.drew _ _
     obtain ⟨wa, hwa⟩ : ∃ wa, (wr.alloc (.cells (Go.Proofs.YtalpnhfoaohhhaaGreat.K.EC Go.Proofs.YtalpnhfoaohhhaaGreat.K.en0) 36)).drew = wa := ⟨_, rfl⟩
     have HSa := hide (HSt.out _ hBa)
     rw [hwa] at hBa hXa HSa
     refine hK.out _ _ (by first | exact HSa.out | (rw [<- hwa] at HSa; exact HSa.out)) (fun hHeld => ?_)
     clear hK K
     refine wpAnyH_ready (rs := [8]) (by kernel_rfl) (by simp) (.cons rfl (fun K hK => ?_) .nil)
     go_simp
     go_wp2_with fail
     refine (Go.Proofs.YtalpnhfoaohhhaaGreat.K.refFind_any g.ao g.an g.ac g.es e _ (HGr.out.es.below hBa)).mono ?_
     rintro y w4 ⟨kk, rfl, hix, b4⟩
     have hB4 : Below wr.heap.size wr w4 := hBa.trans (b4.mono hBa.size)
     have hX4 := hXa.below b4
     have hst := Go.Proofs.YtalpnhfoaohhhaaGreat.K.run_st28 (e' := Go.Proofs.YtalpnhfoaohhhaaGreat.K.fdE g.es kk) hX4
     obtain ⟨w5, hw5⟩ : ∃ w5, w4.setRow wr.heap.size (Go.Proofs.YtalpnhfoaohhhaaGreat.K.EC (Go.Proofs.YtalpnhfoaohhhaaGreat.K.fdE g.es kk)) = w5 := ⟨_, rfl⟩
     have X5 := hX4.setRow (e' := Go.Proofs.YtalpnhfoaohhhaaGreat.K.fdE g.es kk)
     have hB5 : Below wr.heap.size wr (w4.setRow wr.heap.size (Go.Proofs.YtalpnhfoaohhhaaGreat.K.EC (Go.Proofs.YtalpnhfoaohhhaaGreat.K.fdE g.es kk))) := below_setRow hB4 (Nat.le_refl _)
     rw [hw5] at hst X5 hB5
     have HR : Hid (Go.Proofs.YtalpnhfoaohhhaaGreat.K.IxOf g.es e kk /\ Go.Proofs.YtalpnhfoaohhhaaGreat.K.Box w5 wr.heap.size 36 (Go.Proofs.YtalpnhfoaohhhaaGreat.K.fdE g.es kk) /\ Below wr.heap.size wr w5) := ⟨hix, X5, hB5⟩
     have HS4 := hide (HSt.out _ hB4)
     have HS5 := hide (HSt.out _ hB5)
     refine hK.out _ _ HS4.out (fun hHeld => ?_)
     clear hK K b4 hB4 hB5 hix X5 hX4 hXa hBa hwa
     refine wTk 9 ⟨some 25, .move (.tmp 34), 50, "ref.go:71", #[⟨8, .data⟩], none⟩ rfl ?_
     refine wTk 10 ⟨some 35, .extract (.tmp 25) 0, 36, "ref.go:71", #[⟨9, .data⟩], none⟩ rfl ?_
     refine wTk 11 ⟨some 36, .extract (.tmp 25) 1, 4, "ref.go:71", #[⟨9, .data⟩, ⟨13, .gcOnly .lateStores⟩], none⟩ rfl ?_
     refine wpAnyH_ready (rs := [13]) (by kernel_rfl) (by simp) (.cons rfl (fun K hK => ?_) .nil)
     go_simp
     refine hK.out _ _ HS5.out (fun hHeld => ?_)
     clear hK K
     refine wTk 14 ⟨some 8, .assign (.tmp 36), 4, "ref.go:71", #[⟨11, .data⟩, ⟨13, .chain⟩, ⟨0, .phase⟩, ⟨1, .phase⟩, ⟨2, .phase⟩, ⟨3, .phase⟩, ⟨4, .phase⟩, ⟨5, .phase⟩, ⟨6, .phase⟩, ⟨7, .phase⟩, ⟨8, .phase⟩, ⟨9, .phase⟩, ⟨10, .phase⟩, ⟨11, .phase⟩, ⟨12, .phase⟩, ⟨13, .phase⟩], none⟩ rfl ?_
     refine wpAnyH_done (by kernel_rfl) ?_ _
     clear hHeld
     clear hst hw5
     go_wp2_with fail
     go_meet
     case rel => exact ⟨wr.heap.size, kk, rfl, rfl, HR.out⟩
   case rest =>
    obtain ⟨gx, kk, rfl, rfl, HQ⟩ := hcut
    rename World => wx
    have HBx := hide (HB.out.trans (HQ.out.2.2.mono HB.out.size))
    obtain ⟨hneg, hpos⟩ := find_cl HCg.out HQ.out.1
    have HS7 := hide (HSt.out wx HQ.out.2.2)
    by_cases hkk : kk < 0
    ·have hb : K.fdB kk = false := by unfold K.fdB; simp; omega
     rw [hb]
     have HN : Hid (∀ j, j < k + 1 -> ¬ ClE (f.es.getD j K.en0) g) := fun j hj => by
      by_cases e2 : j = k
      ·rw [e2, He.out]; exact hneg hkk
      ·exact HK.out j (by omega)
     have HBn : Hid (Below wk.heap.size wk wx.drew) := HBx.out.trans ((below_drew1 wx).mono HBx.out.size)
     clear hneg hpos hb
     go_upto_region 7 with fail
     refine wp_region_held_drew (S := fun _ => True) (by kernel_rfl) (trivial) (fun hHeld => ?_)
     refine wTk 0 ⟨some 37, .move (.tmp 8), 4, "ref.go:72", #[], none⟩ rfl ?_
     refine wTk 1 ⟨some 38, .move (.tmp 37), 4, "ref.go:72", #[⟨0, .data⟩], none⟩ rfl ?_
     refine wSk 2 ⟨some 39, .load 36 (.tmp 7), 36, "ref.go:72", #[⟨1, .guard⟩], some (1, true)⟩ rfl ?_
     refine wSk 3 ⟨some 40, .fieldAddr 29 (.tmp 2) 0, 0, "ref.go:72", #[⟨1, .guard⟩], some (1, true)⟩ rfl ?_
     refine wSk 4 ⟨some 41, .load 22 (.tmp 40), 22, "ref.go:72", #[⟨3, .data⟩, ⟨1, .guard⟩], some (1, true)⟩ rfl ?_
     refine wSk 5 ⟨some 42, .move (.tmp 6), 3, "ref.go:72", #[⟨1, .guard⟩], some (1, true)⟩ rfl ?_
     refine wSk 6 ⟨some 43, .indexAddr 22 (.tmp 41) (.tmp 42), 0, "ref.go:72", #[⟨4, .data⟩, ⟨5, .data⟩, ⟨1, .guard⟩], some (1, true)⟩ rfl ?_
     refine wSk 7 ⟨some 44, .load 36 (.tmp 43), 36, "ref.go:72", #[⟨6, .data⟩, ⟨1, .guard⟩], some (1, true)⟩ rfl ?_
     refine wSk 8 ⟨some 45, .binOp .neq 36 (.tmp 39) (.tmp 44) 36, 4, "ref.go:72", #[⟨2, .data⟩, ⟨7, .data⟩, ⟨1, .guard⟩], some (1, true)⟩ rfl ?_
     refine wTk 9 ⟨some 46, .pick (.tmp 38) (.tmp 45) (.const (.bool false)), 4, "ref.go:72", #[⟨1, .data⟩, ⟨8, .data⟩], none⟩ rfl ?_
     refine wpAnyH_done (by kernel_rfl) ?_ _
     clear hHeld
     go_wp2_with fail
     go_roundw
     case rel => exact ⟨k + 1, Hlt.out, by simp, HN.out, HBn.out⟩
     case measure => simp [intOf]; have := Hlt.out; omega
    ·have hb : K.fdB kk = true := by unfold K.fdB; simp; omega
     rw [hb]
     obtain ⟨hsd, hcl⟩ := hpos (by omega)
     obtain ⟨y, Hy⟩ : ∃ y, Hid (K.fdE g.es kk = y) := ⟨_, rfl⟩
     rw [Hy.out] at hsd hcl HQ
     obtain ⟨q, hq⟩ : ∃ q, K.eqE y e = q := ⟨_, rfl⟩
     have leq : ∀ W : World, (Op.equalIn 10000 36 (K.EV y) (K.EV e)).run Tryz.prog W = .ok q W := fun W => by rw [<- hq]; exact K.run_eq28 y e W
     rw [hq] at hcl
     have Hcl := hide hcl
     have Hsd := hide hsd
     clear hneg hpos hb hcl hsd hq
     go_upto_region 7 with fail
     refine wp_region_held_drew (S := fun W => (W.cell? ⟨G, 0, none⟩ = some (.slice (some ⟨b1, o1, none⟩) f.an f.ac)) /\ (K.ld28 (.pointer (some ⟨b1, o1 + k * 4, none⟩))).run Tryz.prog W = .ok (K.EV e) W /\ (K.ld28 (.pointer (some ⟨gx, 0, none⟩))).run Tryz.prog W = .ok (K.EV y) W) (by kernel_rfl) (⟨(HSt.out _ (HQ.out.2.2.trans ((below_drew1 wx).mono HQ.out.2.2.size))).1.1, (HSt.out _ (HQ.out.2.2.trans ((below_drew1 wx).mono HQ.out.2.2.size))).2.2, K.run_ld28 (HQ.out.2.1.below (below_drew1 wx)).at⟩) (fun hHeld => ?_)
     refine wTk 0 ⟨some 37, .move (.tmp 8), 4, "ref.go:72", #[], none⟩ rfl ?_
     refine wTk 1 ⟨some 38, .move (.tmp 37), 4, "ref.go:72", #[⟨0, .data⟩], none⟩ rfl ?_
     refine wTk 2 ⟨some 39, .load 36 (.tmp 7), 36, "ref.go:72", #[⟨1, .guard⟩], some (1, true)⟩ rfl ?_
     refine wTk 3 ⟨some 40, .fieldAddr 29 (.tmp 2) 0, 0, "ref.go:72", #[⟨1, .guard⟩], some (1, true)⟩ rfl ?_
     refine wTk 4 ⟨some 41, .load 22 (.tmp 40), 22, "ref.go:72", #[⟨3, .data⟩, ⟨1, .guard⟩], some (1, true)⟩ rfl ?_
     refine wTk 5 ⟨some 42, .move (.tmp 6), 3, "ref.go:72", #[⟨1, .guard⟩], some (1, true)⟩ rfl ?_
     refine wTk 6 ⟨some 43, .indexAddr 22 (.tmp 41) (.tmp 42), 0, "ref.go:72", #[⟨4, .data⟩, ⟨5, .data⟩, ⟨1, .guard⟩], some (1, true)⟩ rfl ?_
     refine wTk 7 ⟨some 44, .load 36 (.tmp 43), 36, "ref.go:72", #[⟨6, .data⟩, ⟨1, .guard⟩], some (1, true)⟩ rfl ?_
     cases q with
     | true =>
      have HN : Hid (∀ j, j < k + 1 -> ¬ ClE (f.es.getD j K.en0) g) := fun j hj => by
       by_cases e2 : j = k
       ·rw [e2, He.out]; exact fun h => (by have := Hcl.out.1 h; cases this)
       ·exact HK.out j (by omega)
      have HBn : Hid (Below wk.heap.size wk wx.drew) := HBx.out.trans ((below_drew1 wx).mono HBx.out.size)
      refine wTk 8 ⟨some 45, .binOp .neq 36 (.tmp 39) (.tmp 44) 36, 4, "ref.go:72", #[⟨2, .data⟩, ⟨7, .data⟩, ⟨1, .guard⟩], some (1, true)⟩ rfl ?_
      refine wTk 9 ⟨some 46, .pick (.tmp 38) (.tmp 45) (.const (.bool false)), 4, "ref.go:72", #[⟨1, .data⟩, ⟨8, .data⟩], none⟩ rfl ?_
      refine wpAnyH_done (by kernel_rfl) ?_ _
      clear hHeld
      clear leq
      go_wp2_with fail
      go_roundw
      case rel => exact ⟨k + 1, Hlt.out, by simp, HN.out, HBn.out⟩
      case measure => simp [intOf]; have := Hlt.out; omega
     | false =>
      refine wTk 8 ⟨some 45, .binOp .neq 36 (.tmp 39) (.tmp 44) 36, 4, "ref.go:72", #[⟨2, .data⟩, ⟨7, .data⟩, ⟨1, .guard⟩], some (1, true)⟩ rfl ?_
      refine wTk 9 ⟨some 46, .pick (.tmp 38) (.tmp 45) (.const (.bool false)), 4, "ref.go:72", #[⟨1, .data⟩, ⟨8, .data⟩], none⟩ rfl ?_
      refine wpAnyH_done (by kernel_rfl) ?_ _
      clear hHeld
      clear leq
      have hde : dotE y = dotE e := by
       have h := Hsd.out
       unfold K.sameDot at h
       simp only [Bool.and_eq_true, beq_iff_eq] at h
       unfold dotE
       rw [h.1, h.2]
      have hBw : Below wk.heap.size wk wx.drew := HBx.out.trans ((below_drew1 wx).mono HBx.out.size)
      have hyb := (HQ.out.2.1.below (below_drew1 wx)).at
      have ldy : (ldD (.pointer (some ⟨gx, 0, none⟩))).run Tryz.prog wx.drew = .ok (RV (dotE y)) wx.drew := run_ldD ⟨hyb.c0, hyb.c1⟩
      rw [hde] at ldy
      have stz := run_stD (r' := dotE e) (HZ.out.below hBw)
      have HE := hide (give_cl (w := w) (d := dotE e) (b := true) (HZ.out.below hBw) (HBK.out.trans (hBw.mono HBK.out.size)) (by rw [HGs.out]; omega) (.inr ⟨H1.out, H2.out, .inr ⟨rfl, k, Hlt.out, by rw [He.out]; exact Hcl.out.2 rfl, HK.out, by rw [He.out]⟩⟩ : ClOf f g (dotE e) true))
      clear hde hBw hyb
      go_wp2_with fail
      clear ldy stz
      refine bodyPost_ret (resD2 rfl rfl rfl HE.out.1) rfl ?_
      exact HE.out.2
  ·have hlti : ¬ (k : Int) < (f.an : Int) := by omega
   have hkk : k = f.an := by omega
   have st0 := run_stD (r' := rn0) (HZ.out.below HB.out)
   have HE := hide (give_cl (w := w) (d := rn0) (b := false) (HZ.out.below HB.out) (HBK.out.trans (HB.out.mono HBK.out.size)) (by rw [HGs.out]; omega) (.inr ⟨H1.out, H2.out, .inl ⟨rfl, rfl, by rw [<- hkk]; exact HK.out⟩⟩ : ClOf f g rn0 false))
   go_wp2_with fail
   clear st0
   refine bodyPost_ret (resD2 rfl rfl rfl HE.out.1) rfl ?_
   exact HE.out.2
end
section
open Go.RowKit
theorem nrE_zero (s : K.En) (d : Rn) : nrE s d = 0 ↔ dotE s = d := by
 unfold nrE or2 cmpI dotE
 obtain ⟨lo, hi⟩ := d
 simp only [Rn.mk.injEq]
 by_cases h1 : s.rep < lo
 ·simp [h1]; omega
 ·by_cases h2 : lo < s.rep
  ·simp [h1, h2]; omega
  ·have h3 : s.rep = lo := by omega
   by_cases h4 : s.num < hi
   ·simp [h3, h4]; omega
   ·by_cases h5 : hi < s.num
    ·simp [h3, h4, h5]; omega
    ·simp [h3, h4, h5]; omega
theorem nrE_ahead {x y : K.En} {d : Rn} (h : K.ahead x y = true) (hy : nrE y d <= 0) : nrE x d < 0 := by
 rw [nrE_neg]
 unfold K.ahead at h
 simp only [Bool.or_eq_true, Bool.and_eq_true, decide_eq_true_eq, beq_iff_eq] at h
 by_cases h0 : nrE y d = 0
 ·have := (nrE_zero y d).1 h0
  subst this
  unfold dotE
  dsimp only
  omega
 ·have := (nrE_neg y d).1 (by omega)
  omega
theorem asc_at {L : List K.En} (h : K.chk L = 0) {i j : Nat} (hij : i < j) (hj : j < L.length) : K.ahead (L.getD i K.en0) (L.getD j K.en0) = true := by
 have := List.pairwise_iff_getElem.1 (K.chk_asc' h) i j (by omega) hj hij
 rw [List.getD_eq_getElem?_getD, List.getElem?_eq_getElem (by omega), List.getD_eq_getElem?_getD, List.getElem?_eq_getElem hj]
 exact this
theorem nrE_mono {L : List K.En} {d : Rn} (h : K.chk L = 0) (a b : Nat) (hab : a <= b) (hb : b < L.length) (hn : nrE (L.getD b K.en0) d < 0) : nrE (L.getD a K.en0) d < 0 := by
 by_cases e : a = b
 ·rw [e]; exact hn
 ·exact nrE_ahead (asc_at h (by omega) hb) (by omega)
def AoD (L : List K.En) (d : Rn) (e : K.En) (b : Bool) : Prop := (b = true /\ e ∈ L /\ dotE e = d) ∨ (b = false /\ e = K.en0 /\ ∀ y ∈ L, dotE y ≠ d)
theorem first_not {L : List K.En} {d : Rn} {n i : Nat} (hc : K.chk L = 0) (hl : L.length = n) (hF : FirstE L d n i) (hb : ¬ (i < n /\ nrE (L.getD i K.en0) d = 0)) : ∀ y ∈ L, dotE y ≠ d := by
 intro y hy e
 obtain ⟨j, hj, rfl⟩ := List.getElem_of_mem hy
 have e0 : L.getD j K.en0 = L[j] := by rw [List.getD_eq_getElem?_getD, List.getElem?_eq_getElem hj]; rfl
 have h0 : nrE (L.getD j K.en0) d = 0 := by rw [e0]; exact (nrE_zero _ _).2 e
 rcases Nat.lt_trichotomy j i with q | q | q
 ·have := hF.2.1 j q; omega
 ·subst q; exact hb ⟨by omega, h0⟩
 ·have h1 := nrE_ahead (d := d) (asc_at hc q hj) (by omega)
  have := hF.2.2 (by omega)
  omega
attribute [local go_sem ↓] ldFa_eq stFa_eq ldD_eq stD_eq K.ld28_eq K.st28_eq bldDz_eq
attribute [local go_sem] cells_FaV FaC_size cells_RV RC_size zero_RC fold_RC K.zero_EC K.cells_EV K.EC_size run_bldDz
def bldEz (a : Array (Nat × Value)) : Sem Value := Instr.build 36 a
theorem bldEz_eq (a : Array (Nat × Value)) : Instr.build 36 a = bldEz a := rfl
theorem run_bldEz (w : World) : (bldEz #[]).run Tryz.prog w = .ok (K.EV K.en0) w := by kernel_rfl
attribute [local go_sem ↓] bldEz_eq
attribute [local go_sem] run_bldEz
theorem addOf_any (ao : Option Addr) (n c : Nat) (L : List K.En) (d : Rn) (w : World) (hS : K.ESrc w ao n c L) (hc : K.chk L = 0) :
  Calls Tryz.prog 31 #[.slice ao n c, RV d] w fun x w' => ∃ e b, x = .returned (.tuple #[K.EV e, .bool b]) /\ AoD L d e b /\ Below w.heap.size w w' := by
 have b1 := below_new w (.cells (RC d) 32)
 have X1 := box_new w 32 d
 have z1 : (w.alloc (.cells (RC d) 32)).heap.size = w.heap.size + 1 := by simp
 obtain ⟨w1, hw1⟩ : ∃ w1, w.alloc (.cells (RC d) 32) = w1 := ⟨_, rfl⟩
 rw [hw1] at b1 X1 z1
 have b2 := below_new w1 (.cells (K.EC K.en0) 36)
 have X2 := K.box_new w1 36 K.en0
 obtain ⟨wk, hwk⟩ : ∃ wk, w1.alloc (.cells (K.EC K.en0) 36) = wk := ⟨_, rfl⟩
 obtain ⟨G, hG⟩ : ∃ G, w.heap.size = G := ⟨_, rfl⟩
 rw [hwk] at b2 X2
 rw [z1, hG] at X2
 rw [hG] at X1
 have HX := hide (X1.below b2)
 have HY := hide X2
 have HBK := hide (b1.trans (b2.mono b1.size))
 have HS := hide (hS.below HBK.out)
 have HC := hide hc
 have HGs : Hid (w.heap.size = G) := hG
 clear b1 X1 b2 X2 hS hc
 have ld := run_ldD HX.out.at
 go_enter Tryz.func31, Tryz.ntmps31
 go_wp2_with fail
 clear hw1 hwk z1 hG
 refine (bsE_any ao n c L d _ HS.out (fun a b hab hb hn => nrE_mono HC.out a b hab (by rw [HS.out.1]; exact hb) hn)).mono ?_
 rintro e w3 ⟨i, b, rfl, hF, hb, b3⟩
 have HB3 := hide (HBK.out.trans (b3.mono HBK.out.size))
 have HY3 := hide (HY.out.below b3)
 have HS3 := hide (HS.out.below b3)
 have HF := hide hF
 clear b3 ld hF
 cases b with
 | false =>
  have hno : ¬ (i < n /\ nrE (L.getD i K.en0) d = 0) := fun h => by have := hb.2 h; cases this
  have HD : Hid (AoD L d K.en0 false) := .inr ⟨rfl, rfl, first_not HC.out HS.out.1 HF.out hno⟩
  have st := K.run_st28 (e' := K.en0) HY3.out
  have HZ := hide (HY3.out.setRow (e' := K.en0))
  have HBz := hide (below_setRow (cs := K.EC K.en0) HB3.out (show w.heap.size <= G + 1 by rw [HGs.out]; omega))
  clear hb hno
  go_wp2_with fail
  clear st
  refine bodyPost_ret (K.resF rfl rfl rfl HZ.out) rfl ?_
  exact ⟨_, _, rfl, HD.out, HBz.out⟩
 | true =>
  obtain ⟨hi, h0⟩ := hb.1 rfl
  obtain ⟨ad, hao, A0⟩ := HS3.out.at i hi
  subst hao
  have hii : (i : Int) < (n : Int) := by omega
  have HD : Hid (AoD L d (L.getD i K.en0) true) := .inl ⟨rfl, getE_mem (by rw [HS.out.1]; exact hi), (nrE_zero _ _).1 h0⟩
  obtain ⟨y, Hy⟩ : ∃ y, Hid (L.getD i K.en0 = y) := ⟨_, rfl⟩
  rw [Hy.out] at A0 HD
  have hld := K.run_ld28 A0
  have st := K.run_st28 (e' := y) HY3.out
  have HZ := hide (HY3.out.setRow (e' := y))
  have HBz := hide (below_setRow (cs := K.EC y) HB3.out (show w.heap.size <= G + 1 by rw [HGs.out]; omega))
  clear hb h0 A0
  go_wp2_with fail
  clear st hld
  refine bodyPost_ret (K.resF rfl rfl rfl HZ.out) rfl ?_
  exact ⟨_, _, rfl, HD.out, HBz.out⟩
theorem ao_cl {e y : K.En} {g : Fc} {b : Bool} (hc : K.chk g.es = 0) (h : AoD g.es (dotE e) y b) : (b = false -> ¬ ClE e g) /\ (b = true -> dotE y = dotE e /\ (ClE e g ↔ K.eqE y e = false)) := by
 have key : ∀ {x z : K.En}, dotE x = dotE z ↔ K.sameDot x z = true := fun {x z} => by
  unfold dotE K.sameDot
  simp only [Rn.mk.injEq, Bool.and_eq_true, beq_iff_eq]
 rcases h with ⟨rfl, hm, hd⟩ | ⟨rfl, -, hn⟩
 ·refine ⟨fun h => (by cases h), fun _ => ⟨hd, ?_, fun h => ⟨y, hm, key.1 hd, fun e2 => by rw [(eqE_iff2 _ _).2 e2] at h; cases h⟩⟩⟩
  rintro ⟨z, hz, hsd, hne⟩
  have h1 : dotOf z = dotOf y := by
   have h2 := key.2 hsd
   rw [<- hd] at h2
   exact h2
  have := dot_one hc hz hm h1
  subst this
  cases hq : K.eqE z e with
  | false => rfl
  | true => exact absurd ((eqE_iff2 _ _).1 hq) hne
 ·refine ⟨fun _ => ?_, fun h => (by cases h)⟩
  rintro ⟨z, hz, hsd, -⟩
  exact hn z hz (key.2 hsd)
theorem tClash_any (f g : Fc) (w : World) (hF : FcOk w f) (hG : FcOk w g) :
  Calls Tryz.prog 10 #[FaV (mkF f), FaV (mkF g)] w fun e w' => ClA w w' e f g := by
 obtain ⟨wk, hwk, HX, HY, HZ, HBK⟩ := box3D w f g
 have HF := hide (hF.below HBK.out)
 have HG := hide (hG.below HBK.out)
 clear hF hG
 obtain ⟨G, hG0⟩ : ∃ G, w.heap.size = G := ⟨_, rfl⟩
 rw [hG0] at HX HY HZ
 have HGs : Hid (w.heap.size = G) := hG0
 have lf := run_ldFa HX.out
 have lg := run_ldFa HY.out
 go_enter Tryz.func10, Tryz.ntmps10
 go_wp2_with fail
 clear hwk hG0
 refine (checkBoth_any f g _ HF.out HG.out).mono ?_
 rintro e w2 ⟨x, rfl, hx, b2⟩
 have HB2 := hide b2
 clear b2 lf lg
 rcases hx with ⟨rfl, h1, h2⟩ | ⟨rfl, h1⟩
 rotate_left
 ·have st0 := run_stD (r' := rn0) (HZ.out.below HB2.out)
  have HE := hide (give_cl (w := w) (d := rn0) (b := false) (HZ.out.below HB2.out) (HBK.out.trans (HB2.out.mono HBK.out.size)) (by rw [HGs.out]; omega) (.inl ⟨h1, rfl, rfl⟩ : ClOf f g rn0 false))
  clear h1
  go_wp2_with fail
  clear st0
  refine bodyPost_ret (resD2 rfl rfl rfl HE.out.1) rfl ?_
  exact HE.out.2
 have H1 := hide h1
 have H2 := hide h2
 clear h1 h2
 have HCg : Hid (K.chk g.es = 0) := (chk_okN HG.out.es.1).2 H2.out.1
 have hanb : f.an <= 3518437208883 := HF.out.es.2.2.2.2
 obtain ⟨c0, c3⟩ := (HX.out.below HB2.out).cs
 go_wp2_with fail
 clear c0 c3
 go_loopw [18] (fun i wr => ∃ k : Nat, k <= f.an /\ i = .int .i64 (k : Int) /\ Hid (∀ j, j < k -> ¬ ClE (f.es.getD j K.en0) g) /\ Hid (Below wk.heap.size wk wr)) (fun i _ => f.an - (intOf i).toNat)
 case atStart => exact ⟨0, Nat.zero_le _, rfl, (fun j hj => absurd hj (Nat.not_lt_zero j)), HB2.out⟩
 case round =>
  obtain ⟨k, hk, rfl, HK, HB⟩ := hrel
  rename World => wr
  clear HB2
  by_cases hlt : k < f.an
  ·have hlti : (k : Int) < (f.an : Int) := by omega
   obtain ⟨ad, hao, A0⟩ := (HF.out.es.below HB.out).at k hlt
   obtain ⟨e, He⟩ : ∃ e, Hid (f.es.getD k K.en0 = e) := ⟨_, rfl⟩
   rw [He.out] at A0
   have hld := K.run_ld28 A0
   obtain ⟨g3, hg3⟩ : ∃ g3, wr.heap.size = g3 := ⟨_, rfl⟩
   obtain ⟨w3, hst, X3, B3, -⟩ := K.made wr e g3 hg3
   have HX3 := hide X3
   have HB3 := hide (HB.out.trans (B3.mono HB.out.size))
   have Hlt := hide hlt
   obtain ⟨d0, d3⟩ := (HY.out.below HB3.out).cs
   have ldd : (ldD (.pointer (some ⟨g3, 0, none⟩))).run Tryz.prog w3 = .ok (RV (dotE e)) w3 := run_ldD ⟨X3.at.c0, X3.at.c1⟩
   rw [hao]
   clear A0 X3 B3 hlt hk d3
   go_wp2_with fail
   clear hld hst hg3 d0 ldd
   refine (addOf_any g.ao g.an g.ac g.es (dotE e) _ (HG.out.es.below HB3.out) HCg.out).mono ?_
   rintro x w4 ⟨y, b, rfl, hA, b4⟩
   obtain ⟨hneg, hpos⟩ := ao_cl HCg.out hA
   obtain ⟨g5, hg5⟩ : ∃ g5, w4.heap.size = g5 := ⟨_, rfl⟩
   obtain ⟨w5, hst, X5, B5, -⟩ := K.made w4 y g5 hg5
   have b35 := b4.trans (B5.mono b4.size)
   have HB5 := hide (HB3.out.trans (b35.mono HB3.out.size))
   have HX5 := hide X5
   have HX35 := hide (HX3.out.below b35)
   have l5 := K.run_ld28 X5.at
   have l3 := K.run_ld28 HX35.out.at
   clear hA b4 X5 B5 b35
   cases b with
   | false =>
    have HN : Hid (∀ j, j < k + 1 -> ¬ ClE (f.es.getD j K.en0) g) := fun j hj => by
     by_cases e2 : j = k
     ·rw [e2, He.out]; exact hneg rfl
     ·exact HK.out j (by omega)
    clear hneg hpos
    go_wp2_with fail
    clear hst l5 l3
    go_roundw
    case rel => exact ⟨k + 1, Hlt.out, by simp, HN.out, HB5.out⟩
    case measure => simp [intOf]; have := Hlt.out; omega
   | true =>
    obtain ⟨hdy, hcl⟩ := hpos rfl
    obtain ⟨q, hq⟩ : ∃ q, K.eqE y e = q := ⟨_, rfl⟩
    have leq : ∀ W : World, (Op.equalIn 10000 36 (K.EV y) (K.EV e)).run Tryz.prog W = .ok q W := fun W => by rw [<- hq]; exact K.run_eq28 y e W
    rw [hq] at hcl
    have Hcl := hide hcl
    clear hneg hpos hcl hq
    cases q with
    | true =>
     have HN : Hid (∀ j, j < k + 1 -> ¬ ClE (f.es.getD j K.en0) g) := fun j hj => by
      by_cases e2 : j = k
      ·rw [e2, He.out]; exact fun h => by have := Hcl.out.1 h; cases this
      ·exact HK.out j (by omega)
     clear hdy
     go_wp2_with fail
     clear hst l5 l3 leq
     go_roundw
     case rel => exact ⟨k + 1, Hlt.out, by simp, HN.out, HB5.out⟩
     case measure => simp [intOf]; have := Hlt.out; omega
    | false =>
     have l6 : (ldD (.pointer (some ⟨g3, 0, none⟩))).run Tryz.prog w5 = .ok (RV (dotE e)) w5 := run_ldD ⟨HX35.out.at.c0, HX35.out.at.c1⟩
     have stz := run_stD (r' := dotE e) (HZ.out.below HB5.out)
     have HE := hide (give_cl (w := w) (d := dotE e) (b := true) (HZ.out.below HB5.out) (HBK.out.trans (HB5.out.mono HBK.out.size)) (by rw [HGs.out]; omega) (.inr ⟨H1.out, H2.out, .inr ⟨rfl, k, Hlt.out, by rw [He.out]; exact Hcl.out.2 rfl, HK.out, by rw [He.out]⟩⟩ : ClOf f g (dotE e) true))
     clear hdy
     go_wp2_with fail
     clear hst l5 l3 leq l6 stz
     refine bodyPost_ret (resD2 rfl rfl rfl HE.out.1) rfl ?_
     exact HE.out.2
  ·have hlti : ¬ (k : Int) < (f.an : Int) := by omega
   have hkk : k = f.an := by omega
   have st0 := run_stD (r' := rn0) (HZ.out.below HB.out)
   have HE := hide (give_cl (w := w) (d := rn0) (b := false) (HZ.out.below HB.out) (HBK.out.trans (HB.out.mono HBK.out.size)) (by rw [HGs.out]; omega) (.inr ⟨H1.out, H2.out, .inl ⟨rfl, rfl, by rw [<- hkk]; exact HK.out⟩⟩ : ClOf f g rn0 false))
   go_wp2_with fail
   clear st0
   refine bodyPost_ret (resD2 rfl rfl rfl HE.out.1) rfl ?_
   exact HE.out.2
end
end Go.Proofs.YtalpnhfoaohhhaaGreat
