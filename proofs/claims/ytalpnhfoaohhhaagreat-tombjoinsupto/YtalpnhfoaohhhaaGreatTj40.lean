/- TSr TMn TLe TOr -/
import Derived.Test.YtalpnhfoaohhhaaGreatTk
import Derived.Test.YtalpnhfoaohhhaaGreatTj21
import Derived.Test.YtalpnhfoaohhhaaGreatTj30
import Derived.Test.YtalpnhfoaohhhaaGreatTj38
import Derived.Test.YtalpnhfoaohhhaaGreatTj33
import Derived.Test.YtalpnhfoaohhhaaGreatTj39
import Derived.Test.YtalpnhfoaohhhaaGreatTj32
set_option maxRecDepth 100000
set_option maxHeartbeats 1600000
namespace Go.Proofs.YtalpnhfoaohhhaaGreat
section
open Go.RowKit
attribute [local go_sem ↓] K.ld28_eq K.st28_eq K.run_eq28 ldP_eq stP_eq ldRe_eq stRe_eq
attribute [local go_sem] K.zero_EC K.cells_EV cells_PV PC_size
theorem sameRecs10_any (ao bo : Option Addr) (n m ca cb : Nat) (L M : List Rc) (w : World) (hL : RcS w ao n ca L) (hM : RcS w bo m cb M) : Calls Tryz.prog 41 #[.slice ao n ca, .slice bo m cb] w fun e w' => GivesB w w' e (plR L = plR M) := by
 have HL := hide hL
 have HM := hide hM
 have hn := hL.big
 have hm := hM.big
 have HLl : Hid (L.length = n /\ M.length = m) := ⟨hL.len, hM.len⟩
 clear hL hM
 by_cases hnm : n = m
 ·subst hnm
  go_enter Tryz.func41, Tryz.ntmps41
  go_wp2_with fail
  go_loopw [5] (fun i wr => ∃ k : Nat, k <= n /\ i = .int .i64 k /\ Hid (plR (L.take k) = plR (M.take k) /\ Below w.heap.size w wr)) (fun i _ => n - (intOf i).toNat)
  case atStart => exact ⟨0, Nat.zero_le _, rfl, rfl, Below.refl _ _⟩
  case round =>
   obtain ⟨k, hk, rfl, HK⟩ := hrel
   rename World => wr
   by_cases hlt : k < n
   ·obtain ⟨ad, rfl, A0⟩ := (HL.out.below HK.out.2).at k hlt
    obtain ⟨bd, rfl, B0⟩ := (HM.out.below HK.out.2).at k hlt
    obtain ⟨b1, o1, rfl⟩ := HL.out.spot (by omega)
    obtain ⟨b2, o2, rfl⟩ := HM.out.spot (by omega)
    have HO1 := (HL.out.below HK.out.2).okAt k hlt
    have HO2 := (HM.out.below HK.out.2).okAt k hlt
    have ht1 := plR_take L k (by have := HLl.out; omega)
    have ht2 := plR_take M k (by have := HLl.out; omega)
    obtain ⟨x, Hx⟩ : ∃ x, Hid (L.getD k rc0 = x) := ⟨_, rfl⟩
    obtain ⟨y, Hy⟩ : ∃ y, Hid (M.getD k rc0 = y) := ⟨_, rfl⟩
    rw [Hx.out] at A0 HO1 ht1
    rw [Hy.out] at B0 HO2 ht2
    rw [Addr.add_lit] at A0 B0
    have HA := hide A0
    have HB := hide B0
    have HTk : Hid (plR (L.take (k + 1)) = plR (L.take k) ++ [(x.s, x.p.P)] /\ plR (M.take (k + 1)) = plR (M.take k) ++ [(y.s, y.p.P)]) := ⟨ht1, ht2⟩
    have HO : Hid (PSrc wr x.p /\ PSrc wr y.p) := ⟨HO1.1, HO2.1⟩
    clear A0 B0 HO1 HO2 ht1 ht2
    have HNo : Hid ((x.s, x.p.P) ≠ (y.s, y.p.P) -> ¬ plR L = plR M) := fun hne h => by
     have h1 := congrArg (fun z : List Rp => z.take (k + 1)) h
     simp only [plR, <- List.map_take] at h1
     have h2 := HTk.out
     unfold plR at h2
     rw [h2.1, h2.2] at h1
     have h3 := HK.out.1
     unfold plR at h3
     rw [h3] at h1
     have := List.append_cancel_left h1
     exact hne (List.cons.inj this).1
    have Hlt := hide hlt
    go_upto_region 6 with fail
    refine wp_region_held_drew (S := fun v => (v.cell? ⟨b1, o1 + k * 3, none⟩ = some (.string x.s) /\ v.cell? ⟨b2, o2 + k * 3, none⟩ = some (.string y.s)) /\ (ldP (.pointer (some ⟨b1, o1 + k * 3 + 1, none⟩))).run Tryz.prog v = .ok (PV x.p) v /\ (ldP (.pointer (some ⟨b2, o2 + k * 3 + 1, none⟩))).run Tryz.prog v = .ok (PV y.p) v) (by kernel_rfl) (⟨⟨(HA.out.on (below_drew1 wr)).flat.1, (HB.out.on (below_drew1 wr)).flat.1⟩, run_ldP (HA.out.on (below_drew1 wr)).flat.2, run_ldP (HB.out.on (below_drew1 wr)).flat.2⟩) (fun hHeld => ?_)
    refine wTk 0 ⟨some 17, .move (.tmp 0), 27, "ref.go:37", #[], none⟩ rfl ?_
    refine wTk 1 ⟨some 18, .move (.tmp 5), 3, "ref.go:37", #[], none⟩ rfl ?_
    refine wTk 2 ⟨some 19, .indexAddr 27 (.tmp 17) (.tmp 18), 0, "ref.go:37", #[⟨0, .data⟩, ⟨1, .data⟩], none⟩ rfl ?_
    refine wTk 3 ⟨some 20, .fieldAddr 62 (.tmp 19) 0, 0, "ref.go:37", #[⟨2, .data⟩], none⟩ rfl ?_
    refine wTk 4 ⟨some 21, .load 9 (.tmp 20), 9, "ref.go:37", #[⟨3, .data⟩], none⟩ rfl ?_
    refine wTk 5 ⟨some 22, .move (.tmp 1), 27, "ref.go:37", #[], none⟩ rfl ?_
    refine wTk 6 ⟨some 23, .move (.tmp 5), 3, "ref.go:37", #[], none⟩ rfl ?_
    refine wTk 7 ⟨some 24, .indexAddr 27 (.tmp 22) (.tmp 23), 0, "ref.go:37", #[⟨5, .data⟩, ⟨6, .data⟩], none⟩ rfl ?_
    refine wTk 8 ⟨some 25, .fieldAddr 62 (.tmp 24) 0, 0, "ref.go:37", #[⟨7, .data⟩], none⟩ rfl ?_
    refine wTk 9 ⟨some 26, .load 9 (.tmp 25), 9, "ref.go:37", #[⟨8, .data⟩], none⟩ rfl ?_
    by_cases hs : x.s = y.s
    ·have hsb : (x.s.toList == y.s.toList) = true := by rw [hs]; simp
     have HS := hide hs
     clear hs
     refine wTk 10 ⟨some 27, .binOp .neq 9 (.tmp 21) (.tmp 26) 9, 4, "ref.go:37", #[⟨4, .data⟩, ⟨9, .data⟩], none⟩ rfl ?_
     refine wTk 11 ⟨some 28, .move (.tmp 27), 4, "ref.go:37", #[⟨10, .data⟩], none⟩ rfl ?_
     refine wTk 12 ⟨some 29, .move (.tmp 0), 27, "ref.go:37", #[⟨11, .guard⟩], some (11, false)⟩ rfl ?_
     refine wTk 13 ⟨some 30, .move (.tmp 5), 3, "ref.go:37", #[⟨11, .guard⟩], some (11, false)⟩ rfl ?_
     refine wTk 14 ⟨some 31, .indexAddr 27 (.tmp 29) (.tmp 30), 0, "ref.go:37", #[⟨12, .data⟩, ⟨13, .data⟩, ⟨11, .guard⟩], some (11, false)⟩ rfl ?_
     refine wTk 15 ⟨some 32, .fieldAddr 62 (.tmp 31) 1, 0, "ref.go:37", #[⟨14, .data⟩, ⟨11, .guard⟩], some (11, false)⟩ rfl ?_
     refine wTk 16 ⟨some 33, .load 26 (.tmp 32), 26, "ref.go:37", #[⟨15, .data⟩, ⟨11, .guard⟩], some (11, false)⟩ rfl ?_
     refine wTk 17 ⟨some 34, .move (.tmp 1), 27, "ref.go:37", #[⟨11, .guard⟩], some (11, false)⟩ rfl ?_
     refine wTk 18 ⟨some 35, .move (.tmp 5), 3, "ref.go:37", #[⟨11, .guard⟩], some (11, false)⟩ rfl ?_
     refine wTk 19 ⟨some 36, .indexAddr 27 (.tmp 34) (.tmp 35), 0, "ref.go:37", #[⟨17, .data⟩, ⟨18, .data⟩, ⟨11, .guard⟩], some (11, false)⟩ rfl ?_
     refine wTk 20 ⟨some 37, .fieldAddr 62 (.tmp 36) 1, 0, "ref.go:37", #[⟨19, .data⟩, ⟨11, .guard⟩], some (11, false)⟩ rfl ?_
     refine wTk 21 ⟨some 38, .load 26 (.tmp 37), 26, "ref.go:37", #[⟨20, .data⟩, ⟨11, .guard⟩], some (11, false)⟩ rfl ?_
     refine wpAnyH_ready (rs := [22]) (by kernel_rfl) (by simp) (.cons rfl (fun K hK => ?_) .nil)
     go_simp
     go_wp2_with fail
     refine (samePast_any x.p y.p _ (HO.out.1.below (below_drew1 wr)) (HO.out.2.below (below_drew1 wr))).mono ?_
     rintro e w7 ⟨z, rfl, hz, b7⟩
     have hB7 : Below wr.heap.size wr w7 := (below_drew1 wr).trans b7
     have HB7 := hide (HK.out.2.trans (hB7.mono HK.out.2.size))
     refine hK.out _ _ (⟨⟨(HA.out.on (hB7)).flat.1, (HB.out.on (hB7)).flat.1⟩, run_ldP (HA.out.on (hB7)).flat.2, run_ldP (HB.out.on (hB7)).flat.2⟩) (fun hHeld => ?_)
     clear hK K b7 hB7
     cases z with
     | false =>
      have HN := hide (HNo.out (fun h => by have := hz.2 (Prod.mk.inj h).2; cases this))
      clear hz
      refine wTk 23 ⟨some 40, .unOp .not 4 (.tmp 39), 4, "ref.go:37", #[⟨22, .data⟩, ⟨11, .guard⟩], some (11, false)⟩ rfl ?_
      refine wTk 24 ⟨some 41, .pick (.tmp 28) (.const (.bool true)) (.tmp 40), 4, "ref.go:37", #[⟨11, .data⟩, ⟨23, .data⟩], none⟩ rfl ?_
      refine wpAnyH_done (by kernel_rfl) ?_ _
      clear hHeld
      go_wp2_with fail
      go_ret
      exact ⟨false, rfl, ⟨(fun h => by cases h), fun h => absurd h HN.out⟩, HB7.out⟩
     | true =>
      have HE : Hid (plR (L.take (k + 1)) = plR (M.take (k + 1))) := by show _ = _; rw [HTk.out.1, HTk.out.2, HK.out.1, HS.out, hz.1 rfl]
      clear hz
      refine wTk 23 ⟨some 40, .unOp .not 4 (.tmp 39), 4, "ref.go:37", #[⟨22, .data⟩, ⟨11, .guard⟩], some (11, false)⟩ rfl ?_
      refine wTk 24 ⟨some 41, .pick (.tmp 28) (.const (.bool true)) (.tmp 40), 4, "ref.go:37", #[⟨11, .data⟩, ⟨23, .data⟩], none⟩ rfl ?_
      refine wpAnyH_done (by kernel_rfl) ?_ _
      clear hHeld
      go_wp2_with fail
      go_roundw
      case rel => exact ⟨k + 1, by omega, by simp, HE.out, HB7.out⟩
      case measure => simp [intOf]; omega
    ·have hsb : (x.s.toList == y.s.toList) = false := by rw [beq_eq_false_iff_ne]; exact fun h => hs (list_ext h)
     have HN := hide (HNo.out (fun h => hs (Prod.mk.inj h).1))
     refine wTk 10 ⟨some 27, .binOp .neq 9 (.tmp 21) (.tmp 26) 9, 4, "ref.go:37", #[⟨4, .data⟩, ⟨9, .data⟩], none⟩ rfl ?_
     refine wTk 11 ⟨some 28, .move (.tmp 27), 4, "ref.go:37", #[⟨10, .data⟩], none⟩ rfl ?_
     refine wSk 12 ⟨some 29, .move (.tmp 0), 27, "ref.go:37", #[⟨11, .guard⟩], some (11, false)⟩ rfl ?_
     refine wSk 13 ⟨some 30, .move (.tmp 5), 3, "ref.go:37", #[⟨11, .guard⟩], some (11, false)⟩ rfl ?_
     refine wSk 14 ⟨some 31, .indexAddr 27 (.tmp 29) (.tmp 30), 0, "ref.go:37", #[⟨12, .data⟩, ⟨13, .data⟩, ⟨11, .guard⟩], some (11, false)⟩ rfl ?_
     refine wSk 15 ⟨some 32, .fieldAddr 62 (.tmp 31) 1, 0, "ref.go:37", #[⟨14, .data⟩, ⟨11, .guard⟩], some (11, false)⟩ rfl ?_
     refine wSk 16 ⟨some 33, .load 26 (.tmp 32), 26, "ref.go:37", #[⟨15, .data⟩, ⟨11, .guard⟩], some (11, false)⟩ rfl ?_
     refine wSk 17 ⟨some 34, .move (.tmp 1), 27, "ref.go:37", #[⟨11, .guard⟩], some (11, false)⟩ rfl ?_
     refine wSk 18 ⟨some 35, .move (.tmp 5), 3, "ref.go:37", #[⟨11, .guard⟩], some (11, false)⟩ rfl ?_
     refine wSk 19 ⟨some 36, .indexAddr 27 (.tmp 34) (.tmp 35), 0, "ref.go:37", #[⟨17, .data⟩, ⟨18, .data⟩, ⟨11, .guard⟩], some (11, false)⟩ rfl ?_
     refine wSk 20 ⟨some 37, .fieldAddr 62 (.tmp 36) 1, 0, "ref.go:37", #[⟨19, .data⟩, ⟨11, .guard⟩], some (11, false)⟩ rfl ?_
     refine wSk 21 ⟨some 38, .load 26 (.tmp 37), 26, "ref.go:37", #[⟨20, .data⟩, ⟨11, .guard⟩], some (11, false)⟩ rfl ?_
     refine wSk 22 ⟨some 39, .call ⟨.value (.func 40), #[.tmp 33, .tmp 38], #[26, 26]⟩, 4, "ref.go:37", #[⟨16, .data⟩, ⟨21, .data⟩, ⟨11, .chain⟩, ⟨11, .guard⟩], some (11, false)⟩ rfl ?_
     refine wSk 23 ⟨some 40, .unOp .not 4 (.tmp 39), 4, "ref.go:37", #[⟨22, .data⟩, ⟨11, .guard⟩], some (11, false)⟩ rfl ?_
     refine wTk 24 ⟨some 41, .pick (.tmp 28) (.const (.bool true)) (.tmp 40), 4, "ref.go:37", #[⟨11, .data⟩, ⟨23, .data⟩], none⟩ rfl ?_
     refine wpAnyH_done (by kernel_rfl) ?_ _
     clear hHeld
     clear hs
     go_wp2_with fail
     go_ret
     exact ⟨false, rfl, ⟨(fun h => by cases h), fun h => absurd h HN.out⟩, below_drewB HK.out.2⟩
   ·obtain rfl : k = n := by omega
    have HF : Hid (GivesB w wr (.returned (.bool true)) (plR L = plR M)) := by
     refine ⟨true, rfl, ⟨fun _ => ?_, fun _ => rfl⟩, HK.out.2⟩
     have h := HK.out.1
     rw [List.take_of_length_le (by have := HLl.out; omega), List.take_of_length_le (by have := HLl.out; omega)] at h
     exact h
    go_wp2_with fail
    go_ret
    exact HF.out
 ·have hne : ((n : Int) != (m : Int)) = true := by simp; omega
  have HF : Hid (GivesB w w (.returned (.bool false)) (plR L = plR M)) := ⟨false, rfl, ⟨(fun h => by cases h), fun h => by have h1 := congrArg List.length h; rw [plR_len, plR_len] at h1; have := HLl.out; omega⟩, Below.refl _ _⟩
  go_enter Tryz.func41, Tryz.ntmps41
  go_wp2_with fail
  go_ret
  exact HF.out
def EqF (f g : Fc) : Prop := f.es = g.es /\ f.p.P = g.p.P /\ plR f.rs = plR g.rs
attribute [local go_sem ↓] ldFa_eq stFa_eq
attribute [local go_sem] cells_FaV FaC_size
theorem equal10_true (f g : Fc) (w : World) (hF : FcOk w f) (hG : FcOk w g) (hE : EqF f g) : Calls Tryz.prog 16 #[FaV (mkF f), FaV (mkF g)] w fun e w' => e = .returned (.bool true) /\ Below w.heap.size w w' := by
 obtain ⟨wk, hwk, HX, HY, HBK⟩ := box2F w f g
 have HS := hide (hF.below HBK.out)
 have HR := hide (hG.below HBK.out)
 have HE := hide hE
 clear hF hG hE
 obtain ⟨c0, c3⟩ := HX.out.cs
 obtain ⟨d0, d3⟩ := HY.out.cs
 go_enter Tryz.func16, Tryz.ntmps16
 go_wp2_with fail
 clear hwk
 refine (K.same_any f.ao g.ao f.an f.ac g.an g.ac f.es g.es _ HS.out.es HR.out.es HE.out.1).mono ?_
 rintro e w1 ⟨rfl, b1⟩
 have HB1 := hide (HBK.out.trans (b1.mono HBK.out.size))
 have HX1 := hide (HX.out.below b1)
 have HY1 := hide (HY.out.below b1)
 have HS1 := hide (HS.out.below b1)
 have HR1 := hide (HR.out.below b1)
 clear b1 c0 c3 d0 d3
 have lp := run_ldP HX1.out.past
 have lq := run_ldP HY1.out.past
 go_wp2_with fail
 clear lp lq
 refine (samePast_any f.p g.p _ HS1.out.p HR1.out.p).mono ?_
 rintro e w2 ⟨b, rfl, hb, b2⟩
 obtain rfl : b = true := hb.2 HE.out.2.1
 have HB2 := hide (HB1.out.trans (b2.mono HB1.out.size))
 have HX2 := hide (HX1.out.below b2)
 have HY2 := hide (HY1.out.below b2)
 have HS2 := hide (HS1.out.below b2)
 have HR2 := hide (HR1.out.below b2)
 clear b2 hb
 obtain ⟨-, c3⟩ := HX2.out.cs
 obtain ⟨-, d3⟩ := HY2.out.cs
 go_wp2_with fail
 clear c3 d3
 refine (sameRecs10_any f.ro g.ro f.rn g.rn f.rc g.rc f.rs g.rs _ HS2.out.rs HR2.out.rs).mono ?_
 rintro e w3 ⟨b, rfl, hb, b3⟩
 obtain rfl : b = true := hb.2 HE.out.2.2
 have HB3 := hide (HB2.out.trans (b3.mono HB2.out.size))
 clear b3 hb
 go_wp2_with fail
 go_ret
 exact ⟨rfl, HB3.out⟩
end
section
open Go.RowKit
structure IsF (h : Fc) (E : K.En -> Prop) (M : Nat -> Int -> Prop) (R : Rp -> Prop) : Prop where
 form : FormF h
 len : h.es.length = h.an /\ h.rs.length = h.rn
 es : ∀ x, x ∈ h.es ↔ E x
 p : ∀ r, r < 16 -> ∀ n, mem (runsAt h.p.P r) n ↔ M r n
 rs : ∀ y, y ∈ plR h.rs ↔ R y
def WellF (f g : Fc) : Prop := FormF f /\ FormF g /\ ∀ e ∈ f.es, ¬ ClE e g
attribute [local go_sem ↓] ldFa_eq stFa_eq ldD_eq stD_eq
attribute [local go_sem] cells_FaV FaC_size cells_RV RC_size zero_RC
end
section
open Go.RowKit
def FcL (w w' : World) (e : Ending) (D : Fc -> Prop) : Prop := ∃ h, e = .returned (FaV (mkF h)) /\ FcOk w' h /\ FcR h /\ FcN w.heap.size h /\ Below w.heap.size w w' /\ D h
def LeOf (f g h : Fc) : Prop := h.es = f.es.filter (notIn g.es) /\ (∃ C : Nat -> List Rn, (∀ r, r < 16 -> MinusOf (runsAt f.p.P r) (runsAt g.p.P r) (C r)) /\ CanonOf C h.p.P) /\ LrOf f.rs g.rs h.rs /\ h.rn <= f.rn
def WiOf (f g : Fc) : Prop := (∀ x ∈ f.es, x ∈ g.es) /\ (∀ r, r < 16 -> ∀ n, mem (runsAt f.p.P r) n -> mem (runsAt g.p.P r) n) /\ ∀ y ∈ plR f.rs, y ∈ plR g.rs
attribute [local go_sem ↓] ldP_eq stP_eq ldFa_eq stFa_eq bldF_eq
attribute [local go_sem] cells_PV PC_size cells_FaV FaC_size zero_FaZ run_bldF0 run_bldF12
def WtD (f g : Fc) (b : Bool) (er : Int) : Prop := (¬ (FormF f /\ FormF g) /\ b = false /\ er = 1) ∨ (FormF f /\ FormF g /\ er = 0 /\ (b = true ↔ WiOf f g))
end
section
open Go.RowKit
def LsD (f g h : Fc) (er : Int) : Prop := (¬ (FormF f /\ FormF g) /\ er = 1 /\ h = fz0) ∨ (FormF f /\ FormF g /\ er = 0 /\ LeOf f g h)
attribute [local go_sem ↓] ldP_eq stP_eq ldFa_eq stFa_eq bldF_eq
attribute [local go_sem] cells_PV PC_size cells_FaV FaC_size zero_FaZ run_bldF0 run_bldF12
def ordK (x y : Bool) : Int := if x && y then 0 else if x then 1 else if y then 2 else 3
def OrD (f g : Fc) (k er : Int) : Prop := (¬ (FormF f /\ FormF g) /\ k = 0 /\ er = 1) ∨ (FormF f /\ FormF g /\ er = 0 /\ ∃ x y : Bool, (x = true ↔ WiOf f g) /\ (y = true ↔ WiOf g f) /\ k = ordK x y)
end
end Go.Proofs.YtalpnhfoaohhhaaGreat
