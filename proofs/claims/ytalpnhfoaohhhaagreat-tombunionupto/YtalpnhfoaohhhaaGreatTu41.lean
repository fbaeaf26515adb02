/- TSr TMn TJn -/
import Derived.Test.YtalpnhfoaohhhaaGreatTk
import Derived.Test.YtalpnhfoaohhhaaGreatTu24
import Derived.Test.YtalpnhfoaohhhaaGreatTu35
import Derived.Test.YtalpnhfoaohhhaaGreatTu40
import Derived.Test.YtalpnhfoaohhhaaGreatTu39
import Derived.Deep.CutRange
namespace Go.Proofs.YtalpnhfoaohhhaaGreat
open Go.RowKit
attribute [local go_sem ↓] K.ld28_eq K.st28_eq K.run_eq28 ldP_eq stP_eq ldRe_eq stRe_eq
attribute [local go_sem] K.zero_EC K.cells_EV cells_PV PC_size
set_option maxRecDepth 100000 in
set_option maxHeartbeats 1600000 in
theorem sameRecs10_any (ao bo : Option Addr) (n m ca cb : Nat) (L M : List Rc) (w : World) (hL : RcS w ao n ca L) (hM : RcS w bo m cb M) : Calls Tryz.prog 41 #[.slice ao n ca, .slice bo m cb] w fun e w' => GivesB w w' e (plR L = plR M) := by
 have HL := hide hL
 have HM := hide hM
 have hn := hL.big
 have hm := hM.big
 have HLl : Hid (L.length = n ∧ M.length = m) := ⟨hL.len, hM.len⟩
 clear hL hM
 by_cases hnm : n = m
 ·subst hnm
  go_enter Tryz.func41, Tryz.ntmps41
  go_wp2_with fail
  go_loopw [5] (fun i wr => ∃ k : Nat, k ≤ n ∧ i = .int .i64 k ∧ Hid (plR (L.take k) = plR (M.take k) ∧ Below w.heap.size w wr)) (fun i _ => n - (intOf i).toNat)
  case atStart => exact ⟨0, Nat.zero_le _, rfl, rfl, Below.refl _ _⟩
  case round =>
   obtain ⟨k, hk, rfl, HK⟩ := hrel
   rename World => wr
   by_cases hlt : k < n
   ·obtain ⟨ad, rfl, A0⟩ := (HL.out.below HK.out.2).at k hlt
    obtain ⟨bd, rfl, B0⟩ := (HM.out.below HK.out.2).at k hlt
    obtain ⟨b1, o1, rfl⟩ := HL.out.spot (by omega)
    obtain ⟨b2, o2, rfl⟩ := HM.out.spot (by omega)
    have HO1 := (HL.out.below HK.out.2).okAt k hlt
    have HO2 := (HM.out.below HK.out.2).okAt k hlt
    have ht1 := plR_take L k (by have := HLl.out; omega)
    have ht2 := plR_take M k (by have := HLl.out; omega)
    obtain ⟨x, Hx⟩ : ∃ x, Hid (L.getD k rc0 = x) := ⟨_, rfl⟩
    obtain ⟨y, Hy⟩ : ∃ y, Hid (M.getD k rc0 = y) := ⟨_, rfl⟩
    rw [Hx.out] at A0 HO1 ht1
    rw [Hy.out] at B0 HO2 ht2
    rw [Addr.add_lit] at A0 B0
    have HA := hide A0
    have HB := hide B0
    have HTk : Hid (plR (L.take (k + 1)) = plR (L.take k) ++ [(x.s, x.p.P)] ∧ plR (M.take (k + 1)) = plR (M.take k) ++ [(y.s, y.p.P)]) := ⟨ht1, ht2⟩
    have HO : Hid (PSrc wr x.p ∧ PSrc wr y.p) := ⟨HO1.1, HO2.1⟩
    clear A0 B0 HO1 HO2 ht1 ht2
    have HNo : Hid ((x.s, x.p.P) ≠ (y.s, y.p.P) → ¬ plR L = plR M) := fun hne h => by
     have h1 := congrArg (fun z : List Rp => z.take (k + 1)) h
     simp only [plR, ← List.map_take] at h1
     have h2 := HTk.out
     unfold plR at h2
     rw [h2.1, h2.2] at h1
     have h3 := HK.out.1
     unfold plR at h3
     rw [h3] at h1
     have := List.append_cancel_left h1
     exact hne (List.cons.inj this).1
    have Hlt := hide hlt
    go_upto_region 6 with fail
    refine wp_region_held_drew (S := fun v => (v.cell? ⟨b1, o1 + k * 3, none⟩ = some (.string x.s) ∧ v.cell? ⟨b2, o2 + k * 3, none⟩ = some (.string y.s)) ∧ (ldP (.pointer (some ⟨b1, o1 + k * 3 + 1, none⟩))).run Tryz.prog v = .ok (PV x.p) v ∧ (ldP (.pointer (some ⟨b2, o2 + k * 3 + 1, none⟩))).run Tryz.prog v = .ok (PV y.p) v) (by kernel_rfl) (⟨⟨(HA.out.on (below_drew1 wr)).flat.1, (HB.out.on (below_drew1 wr)).flat.1⟩, run_ldP (HA.out.on (below_drew1 wr)).flat.2, run_ldP (HB.out.on (below_drew1 wr)).flat.2⟩) (fun hHeld => ?_)
    refine wTk 0 ⟨some 17, .move (.tmp 0), 27, "ref.go:37", #[], none⟩ rfl ?_
    refine wTk 1 ⟨some 18, .move (.tmp 5), 3, "ref.go:37", #[], none⟩ rfl ?_
    refine wTk 2 ⟨some 19, .indexAddr 27 (.tmp 17) (.tmp 18), 0, "ref.go:37", #[⟨0, .data⟩, ⟨1, .data⟩], none⟩ rfl ?_
    refine wTk 3 ⟨some 20, .fieldAddr 62 (.tmp 19) 0, 0, "ref.go:37", #[⟨2, .data⟩], none⟩ rfl ?_
    refine wTk 4 ⟨some 21, .load 9 (.tmp 20), 9, "ref.go:37", #[⟨3, .data⟩], none⟩ rfl ?_
    refine wTk 5 ⟨some 22, .move (.tmp 1), 27, "ref.go:37", #[], none⟩ rfl ?_
    refine wTk 6 ⟨some 23, .move (.tmp 5), 3, "ref.go:37", #[], none⟩ rfl ?_
    refine wTk 7 ⟨some 24, .indexAddr 27 (.tmp 22) (.tmp 23), 0, "ref.go:37", #[⟨5, .data⟩, ⟨6, .data⟩], none⟩ rfl ?_
    refine wTk 8 ⟨some 25, .fieldAddr 62 (.tmp 24) 0, 0, "ref.go:37", #[⟨7, .data⟩], none⟩ rfl ?_
    refine wTk 9 ⟨some 26, .load 9 (.tmp 25), 9, "ref.go:37", #[⟨8, .data⟩], none⟩ rfl ?_
    by_cases hs : x.s = y.s
    ·have hsb : (x.s.toList == y.s.toList) = true := by rw [hs]; simp
     have HS := hide hs
     clear hs
     refine wTk 10 ⟨some 27, .binOp .neq 9 (.tmp 21) (.tmp 26) 9, 4, "ref.go:37", #[⟨4, .data⟩, ⟨9, .data⟩], none⟩ rfl ?_
     refine wTk 11 ⟨some 28, .move (.tmp 27), 4, "ref.go:37", #[⟨10, .data⟩], none⟩ rfl ?_
     refine wTk 12 ⟨some 29, .move (.tmp 0), 27, "ref.go:37", #[⟨11, .guard⟩], some (11, false)⟩ rfl ?_
     refine wTk 13 ⟨some 30, .move (.tmp 5), 3, "ref.go:37", #[⟨11, .guard⟩], some (11, false)⟩ rfl ?_
     refine wTk 14 ⟨some 31, .indexAddr 27 (.tmp 29) (.tmp 30), 0, "ref.go:37", #[⟨12, .data⟩, ⟨13, .data⟩, ⟨11, .guard⟩], some (11, false)⟩ rfl ?_
     refine wTk 15 ⟨some 32, .fieldAddr 62 (.tmp 31) 1, 0, "ref.go:37", #[⟨14, .data⟩, ⟨11, .guard⟩], some (11, false)⟩ rfl ?_
     refine wTk 16 ⟨some 33, .load 26 (.tmp 32), 26, "ref.go:37", #[⟨15, .data⟩, ⟨11, .guard⟩], some (11, false)⟩ rfl ?_
     refine wTk 17 ⟨some 34, .move (.tmp 1), 27, "ref.go:37", #[⟨11, .guard⟩], some (11, false)⟩ rfl ?_
     refine wTk 18 ⟨some 35, .move (.tmp 5), 3, "ref.go:37", #[⟨11, .guard⟩], some (11, false)⟩ rfl ?_
     refine wTk 19 ⟨some 36, .indexAddr 27 (.tmp 34) (.tmp 35), 0, "ref.go:37", #[⟨17, .data⟩, ⟨18, .data⟩, ⟨11, .guard⟩], some (11, false)⟩ rfl ?_
     refine wTk 20 ⟨some 37, .fieldAddr 62 (.tmp 36) 1, 0, "ref.go:37", #[⟨19, .data⟩, ⟨11, .guard⟩], some (11, false)⟩ rfl ?_
     refine wTk 21 ⟨some 38, .load 26 (.tmp 37), 26, "ref.go:37", #[⟨20, .data⟩, ⟨11, .guard⟩], some (11, false)⟩ rfl ?_
     refine wpAnyH_ready (rs := [22]) (by kernel_rfl) (by simp) (.cons rfl (fun K hK => ?_) .nil)
     go_simp
     go_wp2_with fail
     refine (samePast_any x.p y.p _ (HO.out.1.below (below_drew1 wr)) (HO.out.2.below (below_drew1 wr))).mono ?_
     rintro e w7 ⟨z, rfl, hz, b7⟩
     have hB7 : Below wr.heap.size wr w7 := (below_drew1 wr).trans b7
     have HB7 := hide (HK.out.2.trans (hB7.mono HK.out.2.size))
     refine hK.out _ _ (⟨⟨(HA.out.on (hB7)).flat.1, (HB.out.on (hB7)).flat.1⟩, run_ldP (HA.out.on (hB7)).flat.2, run_ldP (HB.out.on (hB7)).flat.2⟩) (fun hHeld => ?_)
     clear hK K b7 hB7
     cases z with
     | false =>
      have HN := hide (HNo.out (fun h => by have := hz.2 (Prod.mk.inj h).2; cases this))
      clear hz
      refine wTk 23 ⟨some 40, .unOp .not 4 (.tmp 39), 4, "ref.go:37", #[⟨22, .data⟩, ⟨11, .guard⟩], some (11, false)⟩ rfl ?_
      refine wTk 24 ⟨some 41, .pick (.tmp 28) (.const (.bool true)) (.tmp 40), 4, "ref.go:37", #[⟨11, .data⟩, ⟨23, .data⟩], none⟩ rfl ?_
      refine wpAnyH_done (by kernel_rfl) ?_ _
      clear hHeld
      go_wp2_with fail
      go_ret
      exact ⟨false, rfl, ⟨(fun h => by cases h), fun h => absurd h HN.out⟩, HB7.out⟩
     | true =>
      have HE : Hid (plR (L.take (k + 1)) = plR (M.take (k + 1))) := by show _ = _; rw [HTk.out.1, HTk.out.2, HK.out.1, HS.out, hz.1 rfl]
      clear hz
      refine wTk 23 ⟨some 40, .unOp .not 4 (.tmp 39), 4, "ref.go:37", #[⟨22, .data⟩, ⟨11, .guard⟩], some (11, false)⟩ rfl ?_
      refine wTk 24 ⟨some 41, .pick (.tmp 28) (.const (.bool true)) (.tmp 40), 4, "ref.go:37", #[⟨11, .data⟩, ⟨23, .data⟩], none⟩ rfl ?_
      refine wpAnyH_done (by kernel_rfl) ?_ _
      clear hHeld
      go_wp2_with fail
      go_roundw
      case rel => exact ⟨k + 1, by omega, by simp, HE.out, HB7.out⟩
      case measure => simp [intOf]; omega
    ·have hsb : (x.s.toList == y.s.toList) = false := by rw [beq_eq_false_iff_ne]; exact fun h => hs (list_ext h)
     have HN := hide (HNo.out (fun h => hs (Prod.mk.inj h).1))
     refine wTk 10 ⟨some 27, .binOp .neq 9 (.tmp 21) (.tmp 26) 9, 4, "ref.go:37", #[⟨4, .data⟩, ⟨9, .data⟩], none⟩ rfl ?_
     refine wTk 11 ⟨some 28, .move (.tmp 27), 4, "ref.go:37", #[⟨10, .data⟩], none⟩ rfl ?_
     refine wSk 12 ⟨some 29, .move (.tmp 0), 27, "ref.go:37", #[⟨11, .guard⟩], some (11, false)⟩ rfl ?_
     refine wSk 13 ⟨some 30, .move (.tmp 5), 3, "ref.go:37", #[⟨11, .guard⟩], some (11, false)⟩ rfl ?_
     refine wSk 14 ⟨some 31, .indexAddr 27 (.tmp 29) (.tmp 30), 0, "ref.go:37", #[⟨12, .data⟩, ⟨13, .data⟩, ⟨11, .guard⟩], some (11, false)⟩ rfl ?_
     refine wSk 15 ⟨some 32, .fieldAddr 62 (.tmp 31) 1, 0, "ref.go:37", #[⟨14, .data⟩, ⟨11, .guard⟩], some (11, false)⟩ rfl ?_
     refine wSk 16 ⟨some 33, .load 26 (.tmp 32), 26, "ref.go:37", #[⟨15, .data⟩, ⟨11, .guard⟩], some (11, false)⟩ rfl ?_
     refine wSk 17 ⟨some 34, .move (.tmp 1), 27, "ref.go:37", #[⟨11, .guard⟩], some (11, false)⟩ rfl ?_
     refine wSk 18 ⟨some 35, .move (.tmp 5), 3, "ref.go:37", #[⟨11, .guard⟩], some (11, false)⟩ rfl ?_
     refine wSk 19 ⟨some 36, .indexAddr 27 (.tmp 34) (.tmp 35), 0, "ref.go:37", #[⟨17, .data⟩, ⟨18, .data⟩, ⟨11, .guard⟩], some (11, false)⟩ rfl ?_
     refine wSk 20 ⟨some 37, .fieldAddr 62 (.tmp 36) 1, 0, "ref.go:37", #[⟨19, .data⟩, ⟨11, .guard⟩], some (11, false)⟩ rfl ?_
     refine wSk 21 ⟨some 38, .load 26 (.tmp 37), 26, "ref.go:37", #[⟨20, .data⟩, ⟨11, .guard⟩], some (11, false)⟩ rfl ?_
     refine wSk 22 ⟨some 39, .call ⟨.value (.func 40), #[.tmp 33, .tmp 38], #[26, 26]⟩, 4, "ref.go:37", #[⟨16, .data⟩, ⟨21, .data⟩, ⟨11, .chain⟩, ⟨11, .guard⟩], some (11, false)⟩ rfl ?_
     refine wSk 23 ⟨some 40, .unOp .not 4 (.tmp 39), 4, "ref.go:37", #[⟨22, .data⟩, ⟨11, .guard⟩], some (11, false)⟩ rfl ?_
     refine wTk 24 ⟨some 41, .pick (.tmp 28) (.const (.bool true)) (.tmp 40), 4, "ref.go:37", #[⟨11, .data⟩, ⟨23, .data⟩], none⟩ rfl ?_
     refine wpAnyH_done (by kernel_rfl) ?_ _
     clear hHeld
     clear hs
     go_wp2_with fail
     go_ret
     exact ⟨false, rfl, ⟨(fun h => by cases h), fun h => absurd h HN.out⟩, below_drewB HK.out.2⟩
   ·obtain rfl : k = n := by omega
    have HF : Hid (GivesB w wr (.returned (.bool true)) (plR L = plR M)) := by
     refine ⟨true, rfl, ⟨fun _ => ?_, fun _ => rfl⟩, HK.out.2⟩
     have h := HK.out.1
     rw [List.take_of_length_le (by have := HLl.out; omega), List.take_of_length_le (by have := HLl.out; omega)] at h
     exact h
    go_wp2_with fail
    go_ret
    exact HF.out
 ·have hne : ((n : Int) != (m : Int)) = true := by simp; omega
  have HF : Hid (GivesB w w (.returned (.bool false)) (plR L = plR M)) := ⟨false, rfl, ⟨(fun h => by cases h), fun h => by have h1 := congrArg List.length h; rw [plR_len, plR_len] at h1; have := HLl.out; omega⟩, Below.refl _ _⟩
  go_enter Tryz.func41, Tryz.ntmps41
  go_wp2_with fail
  go_ret
  exact HF.out
def EqF (f g : Fc) : Prop := f.es = g.es ∧ f.p.P = g.p.P ∧ plR f.rs = plR g.rs
attribute [local go_sem ↓] ldFa_eq stFa_eq
attribute [local go_sem] cells_FaV FaC_size
set_option maxRecDepth 100000 in
theorem equal10_true (f g : Fc) (w : World) (hF : FcOk w f) (hG : FcOk w g) (hE : EqF f g) : Calls Tryz.prog 16 #[FaV (mkF f), FaV (mkF g)] w fun e w' => e = .returned (.bool true) ∧ Below w.heap.size w w' := by
 obtain ⟨wk, hwk, HX, HY, HBK⟩ := box2F w f g
 have HS := hide (hF.below HBK.out)
 have HR := hide (hG.below HBK.out)
 have HE := hide hE
 clear hF hG hE
 obtain ⟨c0, c3⟩ := HX.out.cs
 obtain ⟨d0, d3⟩ := HY.out.cs
 go_enter Tryz.func16, Tryz.ntmps16
 go_wp2_with fail
 clear hwk
 refine (K.same_any f.ao g.ao f.an f.ac g.an g.ac f.es g.es _ HS.out.es HR.out.es HE.out.1).mono ?_
 rintro e w1 ⟨rfl, b1⟩
 have HB1 := hide (HBK.out.trans (b1.mono HBK.out.size))
 have HX1 := hide (HX.out.below b1)
 have HY1 := hide (HY.out.below b1)
 have HS1 := hide (HS.out.below b1)
 have HR1 := hide (HR.out.below b1)
 clear b1 c0 c3 d0 d3
 have lp := run_ldP HX1.out.past
 have lq := run_ldP HY1.out.past
 go_wp2_with fail
 clear lp lq
 refine (samePast_any f.p g.p _ HS1.out.p HR1.out.p).mono ?_
 rintro e w2 ⟨b, rfl, hb, b2⟩
 obtain rfl : b = true := hb.2 HE.out.2.1
 have HB2 := hide (HB1.out.trans (b2.mono HB1.out.size))
 have HX2 := hide (HX1.out.below b2)
 have HY2 := hide (HY1.out.below b2)
 have HS2 := hide (HS1.out.below b2)
 have HR2 := hide (HR1.out.below b2)
 clear b2 hb
 obtain ⟨-, c3⟩ := HX2.out.cs
 obtain ⟨-, d3⟩ := HY2.out.cs
 go_wp2_with fail
 clear c3 d3
 refine (sameRecs10_any f.ro g.ro f.rn g.rn f.rc g.rc f.rs g.rs _ HS2.out.rs HR2.out.rs).mono ?_
 rintro e w3 ⟨b, rfl, hb, b3⟩
 obtain rfl : b = true := hb.2 HE.out.2.2
 have HB3 := hide (HB2.out.trans (b3.mono HB2.out.size))
 clear b3 hb
 go_wp2_with fail
 go_ret
 exact ⟨rfl, HB3.out⟩
end Go.Proofs.YtalpnhfoaohhhaaGreat
namespace Go.Proofs.YtalpnhfoaohhhaaGreat
open Go.RowKit
structure IsF (h : Fc) (E : K.En → Prop) (M : Nat → Int → Prop) (R : Rp → Prop) : Prop where
 form : FormF h
 len : h.es.length = h.an ∧ h.rs.length = h.rn
 es : ∀ x, x ∈ h.es ↔ E x
 p : ∀ r, r < 16 → ∀ n, mem (runsAt h.p.P r) n ↔ M r n
 rs : ∀ y, y ∈ plR h.rs ↔ R y
theorem IsF.chk {h : Fc} {E : K.En → Prop} {M : Nat → Int → Prop} {R : Rp → Prop} (i : IsF h E M R) : K.chk h.es = 0 := (chk_okN i.len.1).2 i.form.1
theorem IsF.srt {h : Fc} {E : K.En → Prop} {M : Nat → Int → Prop} {R : Rp → Prop} (i : IsF h E M R) : Srt ck (plR h.rs) := (okR_iff.1 (by rw [i.len.2]; exact i.form.2.2)).2
theorem IsF.eq {h h' : Fc} {E E' : K.En → Prop} {M M' : Nat → Int → Prop} {R R' : Rp → Prop} (i : IsF h E M R) (j : IsF h' E' M' R') (e1 : ∀ x, E x ↔ E' x) (e2 : ∀ r, r < 16 → ∀ n, M r n ↔ M' r n) (e3 : ∀ y, R y ↔ R' y) : EqF h h' := by
 refine ⟨K.asc_unique (K.chk_asc' i.chk) (K.chk_asc' j.chk) (fun x => by rw [i.es, j.es]; exact e1 x), ?_, Srt.uniq ck_tot i.srt j.srt (fun y => by rw [i.rs, j.rs]; exact e3 y)⟩
 exact (canon_iff.2 i.form.2.1 : CanonOf (runsAt h.p.P) h.p.P).unique (canon_iff.2 j.form.2.1 : CanonOf (runsAt h'.p.P) h'.p.P) (fun r hr n => by rw [i.p r hr, j.p r hr]; exact e2 r hr n)
def WellF (f g : Fc) : Prop := FormF f ∧ FormF g ∧ ∀ e ∈ f.es, ¬ ClE e g
theorem sameDot_symm {x y : K.En} (h : K.sameDot x y = true) : K.sameDot y x = true := by
 unfold K.sameDot at h ⊢
 simp only [Bool.and_eq_true, beq_iff_eq] at h ⊢
 exact ⟨h.1.symm, h.2.symm⟩
theorem WellF.symm {f g : Fc} (h : WellF f g) : WellF g f := ⟨h.2.1, h.1, fun e he ⟨y, hy, hd, hne⟩ => h.2.2 y hy ⟨e, he, sameDot_symm hd, fun q => hne q.symm⟩⟩
theorem sameDot_dotOf {x y : K.En} (h : K.sameDot x y = true) : dotOf x = dotOf y := by
 unfold K.sameDot at h
 simp only [Bool.and_eq_true, beq_iff_eq] at h
 unfold dotOf
 rw [h.1, h.2]
theorem join_isF {w w0 : World} {c : Int} {f g h : Fc} {er : Int} (hf : FcOk w0 f) (hg : FcOk w0 g) (hh : FcOk w h) (W : WellF f g) (J : JnOf c f g h er) :
  er = 0 ∧ h.rn ≤ f.rn + g.rn ∧ IsF h (fun x => x ∈ f.es ∨ x ∈ g.es) (fun r n => mem (runsAt f.p.P r) n ∨ mem (runsAt g.p.P r) n) (fun y => y ∈ plR f.rs ∨ y ∈ plR g.rs) := by
 have cf := (chk_okN hf.es.1).2 W.1.1
 have cg := (chk_okN hg.es.1).2 W.2.1.1
 rcases J with ⟨h1, -⟩ | ⟨-, -, R, e, u, J⟩
 ·exact absurd ⟨W.1, W.2.1⟩ h1
 rcases u with ⟨h1, -⟩ | ⟨-, u⟩
 ·exact absurd ⟨cf, cg⟩ h1
 rcases u with ⟨⟨x, hx, y, hy, hd, hne⟩, -⟩ | ⟨-, rfl, hasc, hm⟩
 ·exfalso
  rcases List.mem_append.1 hx with hx | hx <;> rcases List.mem_append.1 hy with hy | hy
  ·exact hne (dot_one cf hx hy (sameDot_dotOf hd))
  ·exact W.2.2 x hx ⟨y, hy, sameDot_symm hd, fun q => hne q.symm⟩
  ·exact W.2.2 y hy ⟨x, hx, hd, hne⟩
  ·exact hne (dot_one cg hx hy (sameDot_dotOf hd))
 ·rcases J with ⟨h1, -⟩ | ⟨-, rfl, he, hc, hu, hn⟩
  ·exact absurd rfl h1
  have hm2 : ∀ x, x ∈ h.es ↔ x ∈ f.es ∨ x ∈ g.es := fun x => by rw [he, hm x, List.mem_append]
  have hce : ∀ x ∈ h.es, K.ceE x = 0 := fun x hx => ((hm2 x).1 hx).elim (chk_ce cf x) (chk_ce cg x)
  refine ⟨rfl, hn, ⟨⟨(chk_okN hh.es.1).1 (K.chk_asc (by rw [he]; exact hasc) hce), canon_iff.1 hc.canon, by have := hu.ok; rwa [hh.rs.len] at this⟩, ⟨hh.es.1, hh.rs.len⟩, hm2, fun r hr n => ?_, hu.1.2⟩⟩
  rw [canon_mem hc r hr n]
  show mem (runsAt f.p.P r ++ (runsAt g.p.P r ++ [])) n ↔ _
  rw [List.append_nil, mem_append]
theorem well_joinL {a b c h : Fc} {M : Nat → Int → Prop} {R : Rp → Prop} (i : IsF h (fun x => x ∈ a.es ∨ x ∈ b.es) M R) (h1 : WellF a c) (h2 : WellF b c) : WellF h c :=
 ⟨i.form, h1.2.1, fun e he => ((i.es e).1 he).elim (h1.2.2 e) (h2.2.2 e)⟩
theorem ClOf.well {f g : Fc} {d : Rn} {b : Bool} {w : World} (hf : FcOk w f) (h1 : FormF f) (h2 : FormF g) (h : ClOf f g d b) : b = false ↔ WellF f g := by
 rcases h with ⟨h, -⟩ | ⟨-, -, ⟨rfl, -, h⟩ | ⟨rfl, i, h3, h4, -⟩⟩
 ·exact absurd ⟨h1, h2⟩ h
 ·refine ⟨fun _ => ⟨h1, h2, fun e he => ?_⟩, fun _ => rfl⟩
  obtain ⟨j, hj, rfl⟩ := List.getElem_of_mem he
  have := h j (by rw [← hf.es.1]; exact hj)
  rw [List.getD_eq_getElem?_getD, List.getElem?_eq_getElem hj] at this
  exact this
 ·refine ⟨fun h => (by cases h), fun h => absurd h4 (h.2.2 _ (getE_mem (by rw [hf.es.1]; exact h3)))⟩
attribute [local go_sem ↓] ldFa_eq stFa_eq ldD_eq stD_eq
attribute [local go_sem] cells_FaV FaC_size cells_RV RC_size zero_RC
set_option maxRecDepth 100000 in
theorem well_any (f g : Fc) (w : World) (hF : FcOk w f) (hG : FcOk w g) : Calls Tryz.prog 25 #[FaV (mkF f), FaV (mkF g)] w fun e w' => GivesB w w' e (WellF f g) := by
 obtain ⟨wk, hwk, HX, HY, HBK⟩ := box2F w f g
 have HF := hide (hF.below HBK.out)
 have HG := hide (hG.below HBK.out)
 clear hF hG
 have lf := run_ldFa HX.out
 go_enter Tryz.func25, Tryz.ntmps25
 go_wp2_with fail
 clear hwk
 refine (refCheckF_any f _ HF.out).mono ?_
 rintro e w1 ⟨x, rfl, hx, b1⟩
 have HB1 := hide b1
 clear b1 lf
 rcases hx with ⟨rfl, h1⟩ | ⟨rfl, h1⟩
 rotate_left
 ·have HE : Hid (GivesB w w1 (.returned (.bool false)) (WellF f g)) := ⟨false, rfl, ⟨fun h => (by cases h), fun h => absurd h.1 h1⟩, HBK.out.trans (HB1.out.mono HBK.out.size)⟩
  clear h1
  go_wp2_with fail
  go_ret
  exact HE.out
 have H1 := hide h1
 clear h1
 have lg := run_ldFa (HY.out.below HB1.out)
 go_wp2_with fail
 refine (refCheckF_any g _ (HG.out.below HB1.out)).mono ?_
 rintro e w2 ⟨x, rfl, hx, b2⟩
 have HB2 := hide (HB1.out.trans (b2.mono HB1.out.size))
 clear b2 lg HB1
 rcases hx with ⟨rfl, h1⟩ | ⟨rfl, h1⟩
 rotate_left
 ·have HE : Hid (GivesB w w2 (.returned (.bool false)) (WellF f g)) := ⟨false, rfl, ⟨fun h => (by cases h), fun h => absurd h.2.1 h1⟩, HBK.out.trans (HB2.out.mono HBK.out.size)⟩
  clear h1
  go_wp2_with fail
  go_ret
  exact HE.out
 have H2 := hide h1
 clear h1
 have lf := run_ldFa (HX.out.below HB2.out)
 have lg := run_ldFa (HY.out.below HB2.out)
 go_wp2_with fail
 clear lf lg
 refine (refClash_any f g _ (HF.out.below HB2.out) (HG.out.below HB2.out)).mono ?_
 rintro e w3 ⟨d, b, rfl, hcl, b3⟩
 have hw := hcl.well HF.out H1.out H2.out
 obtain ⟨g4, hg4⟩ : ∃ g4, w3.heap.size = g4 := ⟨_, rfl⟩
 obtain ⟨w4, hst, X4, B4, -⟩ := madeD w3 d g4 hg4
 have HB4 := hide (HBK.out.trans ((HB2.out.trans ((b3.trans (B4.mono b3.size)).mono HB2.out.size)).mono HBK.out.size))
 clear hcl b3 X4 B4
 cases b with
 | false =>
  have HE : Hid (GivesB w w4 (.returned (.bool true)) (WellF f g)) := ⟨true, rfl, ⟨fun _ => hw.1 rfl, fun _ => rfl⟩, HB4.out⟩
  clear hw
  go_wp2_with fail
  go_ret
  exact HE.out
 | true =>
  have HE : Hid (GivesB w w4 (.returned (.bool false)) (WellF f g)) := ⟨false, rfl, ⟨fun h => (by cases h), fun h => (by have := hw.2 h; cases this)⟩, HB4.out⟩
  clear hw
  go_wp2_with fail
  go_ret
  exact HE.out
end Go.Proofs.YtalpnhfoaohhhaaGreat
namespace Go.Proofs.YtalpnhfoaohhhaaGreat
open Go.RowKit
attribute [local go_sem ↓] ldP_eq stP_eq ldFa_eq stFa_eq bldF_eq bsPs_eq
attribute [local go_sem] cells_PV PC_size cells_FaV FaC_size zero_FaZ run_bldF0 run_bldF12 run_bsPs
set_option maxRecDepth 100000 in
set_option maxHeartbeats 3200000 in
theorem tJoin_any (f g : Fc) (w : World) (hF : FcOk w f) (hG : FcOk w g) (hf : FcR f) (hg : FcR g) (hnm : f.rn + g.rn ≤ 2199023255551) :
  Calls Tryz.prog 15 #[FaV (mkF f), FaV (mkF g)] w fun e w' => FcD w w' e (JnOf 0 f g) := by
 obtain ⟨w2, hw2, HX2, HY2, HB2⟩ := box2F w f g
 have b3 := below_new w2 (.cells (FaC (mkF fz0)) 29)
 have X3 := FaBox_new w2 (mkF fz0)
 have hs2 : w2.heap.size = w.heap.size + 2 := by rw [← hw2]; simp
 obtain ⟨wk, hwk⟩ : ∃ wk, w2.alloc (.cells (FaC (mkF fz0)) 29) = wk := ⟨_, rfl⟩
 rw [hwk] at b3 X3
 rw [hs2] at X3
 obtain ⟨G, hG0⟩ : ∃ G, w.heap.size = G := ⟨_, rfl⟩
 rw [hG0] at X3 HX2 HY2
 have HX := hide (HX2.out.below b3)
 have HY := hide (HY2.out.below b3)
 have HZ := hide X3
 have HBK := hide (HB2.out.trans (b3.mono HB2.out.size))
 have HF := hide (hF.below HBK.out)
 have HG := hide (hG.below HBK.out)
 have HR : Hid (FcR f ∧ FcR g ∧ f.rn + g.rn ≤ 2199023255551) := ⟨hf, hg, hnm⟩
 have HGs : Hid (w.heap.size = G) := hG0
 clear hF hG hf hg hnm b3 X3 HX2 HY2 HB2
 have lf := run_ldFa HX.out
 have lg := run_ldFa HY.out
 go_enter Tryz.func15, Tryz.ntmps15
 go_wp2_with fail
 clear hw2 hwk hs2 hG0
 refine (checkBoth_any f g _ HF.out HG.out).mono ?_
 rintro e w3 ⟨x, rfl, hx, b3⟩
 have HB3 := hide (HBK.out.trans (b3.mono HBK.out.size))
 have HX3 := hide (HX.out.below b3)
 have HY3 := hide (HY.out.below b3)
 have HZ3 := hide (HZ.out.below b3)
 have HF3 := hide (HF.out.below b3)
 have HG3 := hide (HG.out.below b3)
 clear b3 lf lg
 rcases hx with ⟨rfl, h1, h2⟩ | ⟨rfl, h1⟩
 rotate_left
 ·have st0 := run_stFa (m' := mkF fz0) HZ3.out
  have HE := hide (give_fc (w := w) (f := fz0) (er := 1) (JnOf 0 f g) HZ3.out (fz0_ok _) fz0_row (fz0_new _) HB3.out (by rw [HGs.out]; omega) (.inl ⟨h1, rfl, rfl⟩))
  clear h1
  go_wp2_with fail
  clear st0
  refine bodyPost_ret (res2Fb rfl rfl rfl HE.out.1) rfl ?_
  exact HE.out.2
 have HFo : Hid (FormF f ∧ FormF g) := ⟨h1, h2⟩
 obtain ⟨c0, c3⟩ := HX3.out.cs
 obtain ⟨d0, d3⟩ := HY3.out.cs
 clear h1 h2
 go_wp2_with fail
 clear c0 c3 d0 d3
 refine (K.unionN_any f.ao g.ao f.an f.ac g.an g.ac f.es g.es _ HF3.out.es HG3.out.es).mono ?_
 rintro e w4 ⟨ao, n, c, R, er, rfl, S4, b4, n4, u4⟩
 have HB4 := hide (HB3.out.trans (b4.mono HB3.out.size))
 have HX4 := hide (HX3.out.below b4)
 have HY4 := hide (HY3.out.below b4)
 have HZ4 := hide (HZ3.out.below b4)
 have HF4 := hide (HF3.out.below b4)
 have HG4 := hide (HG3.out.below b4)
 have HS4 := hide S4
 have HN4 : Hid (∀ ad, ao = some ad → G + 3 ≤ ad.block) := fun ad e => Nat.le_trans (by have := HZ3.out.lt; omega) (n4 ad e)
 have HU4 := hide u4
 clear b4 S4 n4 u4
 by_cases h0 : er = 0
 rotate_left
 ·have hne : (er != 0) = true := by simp [h0]
  have st0 := run_stFa (m' := mkF fz0) HZ4.out
  have HE := hide (give_fc (w := w) (f := fz0) (er := er) (JnOf 0 f g) HZ4.out (fz0_ok _) fz0_row (fz0_new _) HB4.out (by rw [HGs.out]; omega) (.inr ⟨HFo.out.1, HFo.out.2, R, er, HU4.out, .inl ⟨h0, by rw [if_pos rfl], rfl⟩⟩))
  clear h0
  go_wp2_with fail
  clear st0
  refine bodyPost_ret (res2Fb rfl rfl rfl HE.out.1) rfl ?_
  exact HE.out.2
 subst h0
 obtain ⟨-, c3⟩ := HX4.out.cs
 obtain ⟨-, d3⟩ := HY4.out.cs
 go_wp2_with fail
 clear c3 d3
 refine (keepUnion_any f.ro g.ro f.rn f.rc g.rn g.rc f.rs g.rs _ (HF4.out.row HR.out.1) (HG4.out.row HR.out.2.1) HR.out.2.2).mono ?_
 rintro e w5 (⟨-, -, h5, F5, rfl, G5, m5, U5⟩ | ⟨hno, -⟩)
 rotate_left
 ·exact absurd ⟨HFo.out.1.2.2, HFo.out.2.2.2⟩ hno
 have b5 := G5.below
 have HB5 := hide (HB4.out.trans (b5.mono HB4.out.size))
 have HX5 := hide (HX4.out.below b5)
 have HY5 := hide (HY4.out.below b5)
 have HZ5 := hide (HZ4.out.below b5)
 have HF5 := hide (HF4.out.below b5)
 have HG5 := hide (HG4.out.below b5)
 have HS5 := hide (HS4.out.below b5)
 have hz : G + 3 ≤ w4.heap.size := by have := HZ4.out.lt; omega
 have HR5 : Hid (RcT w5 h5.o h5.n h5.c F5 ∧ (∀ ad, h5.o = some ad → G + 3 ≤ ad.block) ∧ (∀ r ∈ F5, PNew (G + 3) r.p)) := ⟨G5.row, fun ad e => Nat.le_trans hz (G5.new ad e), fun r hr => (G5.fresh r hr).mono hz⟩
 have HU5 : Hid (UnOf f.rs g.rs F5 ∧ h5.n ≤ f.rn + g.rn) := ⟨U5, m5⟩
 clear b5 G5 U5 m5 hz
 obtain ⟨ho5, hn5, hc5⟩ := h5
 rw [show HsV ⟨ho5, hn5, hc5⟩ = Value.slice ho5 hn5 hc5 from rfl]
 have lp := run_ldP HX5.out.past
 have lq := run_ldP HY5.out.past
 have hPR := prow2 w5 f.p g.p HF5.out.p HG5.out.p
 have b6 := below_new w5 (.cells #[.slice f.p.vo f.p.vn f.p.vc, .slice f.p.co f.p.cn f.p.cc, .slice g.p.vo g.p.vn g.p.vc, .slice g.p.co g.p.cn g.p.cc] 26)
 have lb := run_bsPs f.p g.p w5
 obtain ⟨g6, hg6⟩ : ∃ g6, w5.heap.size = g6 := ⟨_, rfl⟩
 obtain ⟨w6, hw6⟩ : ∃ w6, w5.alloc (.cells #[.slice f.p.vo f.p.vn f.p.vc, .slice f.p.co f.p.cn f.p.cc, .slice g.p.vo g.p.vn g.p.vc, .slice g.p.co g.p.cn g.p.cc] 26) = w6 := ⟨_, rfl⟩
 rw [hw6] at hPR b6 lb
 rw [hg6] at hPR lb
 have HPR := hide hPR
 have HB6 := hide (HB5.out.trans (b6.mono HB5.out.size))
 have HZ6 := hide (HZ5.out.below b6)
 have HS6 := hide (HS5.out.below b6)
 have HR6 : Hid (RcT w6 ho5 hn5 hc5 F5 ∧ (∀ ad, ho5 = some ad → G + 3 ≤ ad.block) ∧ (∀ r ∈ F5, PNew (G + 3) r.p)) := ⟨HR5.out.1.below b6, HR5.out.2.1, HR5.out.2.2⟩
 clear hPR b6 hg6 hw6
 go_wp2_with fail
 clear lp lq lb
 refine (pastJoin_any (some ⟨g6, 0, none⟩) 2 2 [f.p, g.p] _ HPR.out (bsP2_wt HFo.out.1.2.1 HFo.out.2.2.1) (by decide)).mono ?_
 rintro e w7 ⟨q, rfl, S7, N7, b7, C7⟩
 have hz6 : G + 3 ≤ w6.heap.size := by have := HZ6.out.lt; omega
 have HFc : Hid (FcOk w7 ⟨ao, n, c, R, q, ho5, hn5, hc5, F5⟩) := ⟨HS6.out.below b7, S7, (HR6.out.1.below b7).src⟩
 have HFn : Hid (FcN (G + 2 + 1) ⟨ao, n, c, R, q, ho5, hn5, hc5, F5⟩) := ⟨HN4.out, N7.mono hz6, HR6.out.2.1, HR6.out.2.2⟩
 have HZ7 := hide (HZ6.out.below b7)
 have HB7 := hide (HB6.out.trans (b7.mono HB6.out.size))
 have stz := run_stFa (m' := mkF ⟨ao, n, c, R, q, ho5, hn5, hc5, F5⟩) HZ7.out
 have HE := hide (give_fc (w := w) (f := ⟨ao, n, c, R, q, ho5, hn5, hc5, F5⟩) (er := 0) (JnOf 0 f g) HZ7.out HFc.out ⟨HR6.out.1.room, HR6.out.1.nil⟩ HFn.out HB7.out (by rw [HGs.out]; omega) (.inr ⟨HFo.out.1, HFo.out.2, R, 0, HU4.out, .inr ⟨rfl, rfl, rfl, C7, HU5.out⟩⟩))
 clear S7 N7 b7 C7 hz6
 replace stz : (stFa (.pointer (some ⟨G + 2, 0, none⟩)) (.agg #[.slice ao n c, .slice q.vo q.vn q.vc, .slice q.co q.cn q.cc, .slice ho5 hn5 hc5])).run Tryz.prog w7 = .ok () (w7.setRow (G + 2) (FaC (mkF ⟨ao, n, c, R, q, ho5, hn5, hc5, F5⟩))) := stz
 go_wp2_with fail
 clear stz
 refine bodyPost_ret (res2Fb rfl rfl rfl HE.out.1) rfl ?_
 exact HE.out.2
end Go.Proofs.YtalpnhfoaohhhaaGreat
