/- TSr TMn TLe TOr -/
import Derived.Test.YtalpnhfoaohhhaaGreatTk
import Derived.Test.YtalpnhfoaohhhaaGreatTd21
import Derived.Test.YtalpnhfoaohhhaaGreatTd30
import Derived.Test.YtalpnhfoaohhhaaGreatTd38
import Derived.Test.YtalpnhfoaohhhaaGreatTd33
import Derived.Test.YtalpnhfoaohhhaaGreatTd39
import Derived.Test.YtalpnhfoaohhhaaGreatTd32
set_option maxRecDepth 100000
set_option maxHeartbeats 3200000
namespace Go.Proofs.YtalpnhfoaohhhaaGreat
section
open Go.RowKit
attribute [local go_sem ↓] K.ld28_eq K.st28_eq K.run_eq28 ldP_eq stP_eq ldRe_eq stRe_eq
attribute [local go_sem] K.zero_EC K.cells_EV cells_PV PC_size
theorem sameRecs10_any (ao bo : Option Addr) (n m ca cb : Nat) (L M : List Rc) (w : World) (hL : RcS w ao n ca L) (hM : RcS w bo m cb M) : Calls Tryz.prog 41 #[.slice ao n ca, .slice bo m cb] w fun e w' => GivesB w w' e (plR L = plR M) := by
 have HL := hide hL
 have HM := hide hM
 have hn := hL.big
 have hm := hM.big
 have HLl : Hid (L.length = n /\ M.length = m) := ⟨hL.len, hM.len⟩
 clear hL hM
 by_cases hnm : n = m
 ·subst hnm
  go_enter Tryz.func41, Tryz.ntmps41
  go_wp2_with fail
  go_loopw [5] (fun i wr => ∃ k : Nat, k <= n /\ i = .int .i64 k /\ Hid (plR (L.take k) = plR (M.take k) /\ Below w.heap.size w wr)) (fun i _ => n - (intOf i).toNat)
  case atStart => exact ⟨0, Nat.zero_le _, rfl, rfl, Below.refl _ _⟩
  case round =>
   obtain ⟨k, hk, rfl, HK⟩ := hrel
   rename World => wr
   by_cases hlt : k < n
   ·obtain ⟨ad, rfl, A0⟩ := (HL.out.below HK.out.2).at k hlt
    obtain ⟨bd, rfl, B0⟩ := (HM.out.below HK.out.2).at k hlt
    obtain ⟨b1, o1, rfl⟩ := HL.out.spot (by omega)
    obtain ⟨b2, o2, rfl⟩ := HM.out.spot (by omega)
    have HO1 := (HL.out.below HK.out.2).okAt k hlt
    have HO2 := (HM.out.below HK.out.2).okAt k hlt
    have ht1 := plR_take L k (by have := HLl.out; omega)
    have ht2 := plR_take M k (by have := HLl.out; omega)
    obtain ⟨x, Hx⟩ : ∃ x, Hid (L.getD k rc0 = x) := ⟨_, rfl⟩
    obtain ⟨y, Hy⟩ : ∃ y, Hid (M.getD k rc0 = y) := ⟨_, rfl⟩
    rw [Hx.out] at A0 HO1 ht1
    rw [Hy.out] at B0 HO2 ht2
    rw [Addr.add_lit] at A0 B0
    have HA := hide A0
    have HB := hide B0
    have HTk : Hid (plR (L.take (k + 1)) = plR (L.take k) ++ [(x.s, x.p.P)] /\ plR (M.take (k + 1)) = plR (M.take k) ++ [(y.s, y.p.P)]) := ⟨ht1, ht2⟩
    have HO : Hid (PSrc wr x.p /\ PSrc wr y.p) := ⟨HO1.1, HO2.1⟩
    clear A0 B0 HO1 HO2 ht1 ht2
    have HNo : Hid ((x.s, x.p.P) ≠ (y.s, y.p.P) -> ¬ plR L = plR M) := fun hne h => by
     have h1 := congrArg (fun z : List Rp => z.take (k + 1)) h
     simp only [plR, <- List.map_take] at h1
     have h2 := HTk.out
     unfold plR at h2
     rw [h2.1, h2.2] at h1
     have h3 := HK.out.1
     unfold plR at h3
     rw [h3] at h1
     have := List.append_cancel_left h1
     exact hne (List.cons.inj this).1
    have Hlt := hide hlt
    go_upto_region 6 with fail
    refine wp_region_held_drew (S := fun v => (v.cell? ⟨b1, o1 + k * 3, none⟩ = some (.string x.s) /\ v.cell? ⟨b2, o2 + k * 3, none⟩ = some (.string y.s)) /\ (ldP (.pointer (some ⟨b1, o1 + k * 3 + 1, none⟩))).run Tryz.prog v = .ok (PV x.p) v /\ (ldP (.pointer (some ⟨b2, o2 + k * 3 + 1, none⟩))).run Tryz.prog v = .ok (PV y.p) v) (by kernel_rfl) (⟨⟨(HA.out.on (below_drew1 wr)).flat.1, (HB.out.on (below_drew1 wr)).flat.1⟩, run_ldP (HA.out.on (below_drew1 wr)).flat.2, run_ldP (HB.out.on (below_drew1 wr)).flat.2⟩) (fun hHeld => ?_)
    refine wTk 0 ⟨some 17, .move (.tmp 0), 27, "ref.go:37", #[], none⟩ rfl ?_
    refine wTk 1 ⟨some 18, .move (.tmp 5), 3, "ref.go:37", #[], none⟩ rfl ?_
    refine wTk 2 ⟨some 19, .indexAddr 27 (.tmp 17) (.tmp 18), 0, "ref.go:37", #[⟨0, .data⟩, ⟨1, .data⟩], none⟩ rfl ?_
    refine wTk 3 ⟨some 20, .fieldAddr 62 (.tmp 19) 0, 0, "ref.go:37", #[⟨2, .data⟩], none⟩ rfl ?_
    refine wTk 4 ⟨some 21, .load 9 (.tmp 20), 9, "ref.go:37", #[⟨3, .data⟩], none⟩ rfl ?_
    refine wTk 5 ⟨some 22, .move (.tmp 1), 27, "ref.go:37", #[], none⟩ rfl ?_
    refine wTk 6 ⟨some 23, .move (.tmp 5), 3, "ref.go:37", #[], none⟩ rfl ?_
    refine wTk 7 ⟨some 24, .indexAddr 27 (.tmp 22) (.tmp 23), 0, "ref.go:37", #[⟨5, .data⟩, ⟨6, .data⟩], none⟩ rfl ?_
    refine wTk 8 ⟨some 25, .fieldAddr 62 (.tmp 24) 0, 0, "ref.go:37", #[⟨7, .data⟩], none⟩ rfl ?_
    refine wTk 9 ⟨some 26, .load 9 (.tmp 25), 9, "ref.go:37", #[⟨8, .data⟩], none⟩ rfl ?_
    by_cases hs : x.s = y.s
    ·have hsb : (x.s.toList == y.s.toList) = true := by rw [hs]; simp
     have HS := hide hs
     clear hs
     refine wTk 10 ⟨some 27, .binOp .neq 9 (.tmp 21) (.tmp 26) 9, 4, "ref.go:37", #[⟨4, .data⟩, ⟨9, .data⟩], none⟩ rfl ?_
     refine wTk 11 ⟨some 28, .move (.tmp 27), 4, "ref.go:37", #[⟨10, .data⟩], none⟩ rfl ?_
     refine wTk 12 ⟨some 29, .move (.tmp 0), 27, "ref.go:37", #[⟨11, .guard⟩], some (11, false)⟩ rfl ?_
     refine wTk 13 ⟨some 30, .move (.tmp 5), 3, "ref.go:37", #[⟨11, .guard⟩], some (11, false)⟩ rfl ?_
     refine wTk 14 ⟨some 31, .indexAddr 27 (.tmp 29) (.tmp 30), 0, "ref.go:37", #[⟨12, .data⟩, ⟨13, .data⟩, ⟨11, .guard⟩], some (11, false)⟩ rfl ?_
     refine wTk 15 ⟨some 32, .fieldAddr 62 (.tmp 31) 1, 0, "ref.go:37", #[⟨14, .data⟩, ⟨11, .guard⟩], some (11, false)⟩ rfl ?_
     refine wTk 16 ⟨some 33, .load 26 (.tmp 32), 26, "ref.go:37", #[⟨15, .data⟩, ⟨11, .guard⟩], some (11, false)⟩ rfl ?_
     refine wTk 17 ⟨some 34, .move (.tmp 1), 27, "ref.go:37", #[⟨11, .guard⟩], some (11, false)⟩ rfl ?_
     refine wTk 18 ⟨some 35, .move (.tmp 5), 3, "ref.go:37", #[⟨11, .guard⟩], some (11, false)⟩ rfl ?_
     refine wTk 19 ⟨some 36, .indexAddr 27 (.tmp 34) (.tmp 35), 0, "ref.go:37", #[⟨17, .data⟩, ⟨18, .data⟩, ⟨11, .guard⟩], some (11, false)⟩ rfl ?_
     refine wTk 20 ⟨some 37, .fieldAddr 62 (.tmp 36) 1, 0, "ref.go:37", #[⟨19, .data⟩, ⟨11, .guard⟩], some (11, false)⟩ rfl ?_
     refine wTk 21 ⟨some 38, .load 26 (.tmp 37), 26, "ref.go:37", #[⟨20, .data⟩, ⟨11, .guard⟩], some (11, false)⟩ rfl ?_
     refine wpAnyH_ready (rs := [22]) (by kernel_rfl) (by simp) (.cons rfl (fun K hK => ?_) .nil)
     go_simp
     go_wp2_with fail
     refine (samePast_any x.p y.p _ (HO.out.1.below (below_drew1 wr)) (HO.out.2.below (below_drew1 wr))).mono ?_
     rintro e w7 ⟨z, rfl, hz, b7⟩
     have hB7 : Below wr.heap.size wr w7 := (below_drew1 wr).trans b7
     have HB7 := hide (HK.out.2.trans (hB7.mono HK.out.2.size))
     refine hK.out _ _ (⟨⟨(HA.out.on (hB7)).flat.1, (HB.out.on (hB7)).flat.1⟩, run_ldP (HA.out.on (hB7)).flat.2, run_ldP (HB.out.on (hB7)).flat.2⟩) (fun hHeld => ?_)
     clear hK K b7 hB7
     cases z with
     | false =>
      have HN := hide (HNo.out (fun h => by have := hz.2 (Prod.mk.inj h).2; cases this))
      clear hz
      refine wTk 23 ⟨some 40, .unOp .not 4 (.tmp 39), 4, "ref.go:37", #[⟨22, .data⟩, ⟨11, .guard⟩], some (11, false)⟩ rfl ?_
      refine wTk 24 ⟨some 41, .pick (.tmp 28) (.const (.bool true)) (.tmp 40), 4, "ref.go:37", #[⟨11, .data⟩, ⟨23, .data⟩], none⟩ rfl ?_
      refine wpAnyH_done (by kernel_rfl) ?_ _
      clear hHeld
      go_wp2_with fail
      go_ret
      exact ⟨false, rfl, ⟨(fun h => by cases h), fun h => absurd h HN.out⟩, HB7.out⟩
     | true =>
      have HE : Hid (plR (L.take (k + 1)) = plR (M.take (k + 1))) := by show _ = _; rw [HTk.out.1, HTk.out.2, HK.out.1, HS.out, hz.1 rfl]
      clear hz
      refine wTk 23 ⟨some 40, .unOp .not 4 (.tmp 39), 4, "ref.go:37", #[⟨22, .data⟩, ⟨11, .guard⟩], some (11, false)⟩ rfl ?_
      refine wTk 24 ⟨some 41, .pick (.tmp 28) (.const (.bool true)) (.tmp 40), 4, "ref.go:37", #[⟨11, .data⟩, ⟨23, .data⟩], none⟩ rfl ?_
      refine wpAnyH_done (by kernel_rfl) ?_ _
      clear hHeld
      go_wp2_with fail
      go_roundw
      case rel => exact ⟨k + 1, by omega, by simp, HE.out, HB7.out⟩
      case measure => simp [intOf]; omega
    ·have hsb : (x.s.toList == y.s.toList) = false := by rw [beq_eq_false_iff_ne]; exact fun h => hs (list_ext h)
     have HN := hide (HNo.out (fun h => hs (Prod.mk.inj h).1))
     refine wTk 10 ⟨some 27, .binOp .neq 9 (.tmp 21) (.tmp 26) 9, 4, "ref.go:37", #[⟨4, .data⟩, ⟨9, .data⟩], none⟩ rfl ?_
     refine wTk 11 ⟨some 28, .move (.tmp 27), 4, "ref.go:37", #[⟨10, .data⟩], none⟩ rfl ?_
     refine wSk 12 ⟨some 29, .move (.tmp 0), 27, "ref.go:37", #[⟨11, .guard⟩], some (11, false)⟩ rfl ?_
     refine wSk 13 ⟨some 30, .move (.tmp 5), 3, "ref.go:37", #[⟨11, .guard⟩], some (11, false)⟩ rfl ?_
     refine wSk 14 ⟨some 31, .indexAddr 27 (.tmp 29) (.tmp 30), 0, "ref.go:37", #[⟨12, .data⟩, ⟨13, .data⟩, ⟨11, .guard⟩], some (11, false)⟩ rfl ?_
     refine wSk 15 ⟨some 32, .fieldAddr 62 (.tmp 31) 1, 0, "ref.go:37", #[⟨14, .data⟩, ⟨11, .guard⟩], some (11, false)⟩ rfl ?_
     refine wSk 16 ⟨some 33, .load 26 (.tmp 32), 26, "ref.go:37", #[⟨15, .data⟩, ⟨11, .guard⟩], some (11, false)⟩ rfl ?_
     refine wSk 17 ⟨some 34, .move (.tmp 1), 27, "ref.go:37", #[⟨11, .guard⟩], some (11, false)⟩ rfl ?_
     refine wSk 18 ⟨some 35, .move (.tmp 5), 3, "ref.go:37", #[⟨11, .guard⟩], some (11, false)⟩ rfl ?_
     refine wSk 19 ⟨some 36, .indexAddr 27 (.tmp 34) (.tmp 35), 0, "ref.go:37", #[⟨17, .data⟩, ⟨18, .data⟩, ⟨11, .guard⟩], some (11, false)⟩ rfl ?_
     refine wSk 20 ⟨some 37, .fieldAddr 62 (.tmp 36) 1, 0, "ref.go:37", #[⟨19, .data⟩, ⟨11, .guard⟩], some (11, false)⟩ rfl ?_
     refine wSk 21 ⟨some 38, .load 26 (.tmp 37), 26, "ref.go:37", #[⟨20, .data⟩, ⟨11, .guard⟩], some (11, false)⟩ rfl ?_
     refine wSk 22 ⟨some 39, .call ⟨.value (.func 40), #[.tmp 33, .tmp 38], #[26, 26]⟩, 4, "ref.go:37", #[⟨16, .data⟩, ⟨21, .data⟩, ⟨11, .chain⟩, ⟨11, .guard⟩], some (11, false)⟩ rfl ?_
     refine wSk 23 ⟨some 40, .unOp .not 4 (.tmp 39), 4, "ref.go:37", #[⟨22, .data⟩, ⟨11, .guard⟩], some (11, false)⟩ rfl ?_
     refine wTk 24 ⟨some 41, .pick (.tmp 28) (.const (.bool true)) (.tmp 40), 4, "ref.go:37", #[⟨11, .data⟩, ⟨23, .data⟩], none⟩ rfl ?_
     refine wpAnyH_done (by kernel_rfl) ?_ _
     clear hHeld
     clear hs
     go_wp2_with fail
     go_ret
     exact ⟨false, rfl, ⟨(fun h => by cases h), fun h => absurd h HN.out⟩, below_drewB HK.out.2⟩
   ·obtain rfl : k = n := by omega
    have HF : Hid (GivesB w wr (.returned (.bool true)) (plR L = plR M)) := by
     refine ⟨true, rfl, ⟨fun _ => ?_, fun _ => rfl⟩, HK.out.2⟩
     have h := HK.out.1
     rw [List.take_of_length_le (by have := HLl.out; omega), List.take_of_length_le (by have := HLl.out; omega)] at h
     exact h
    go_wp2_with fail
    go_ret
    exact HF.out
 ·have hne : ((n : Int) != (m : Int)) = true := by simp; omega
  have HF : Hid (GivesB w w (.returned (.bool false)) (plR L = plR M)) := ⟨false, rfl, ⟨(fun h => by cases h), fun h => by have h1 := congrArg List.length h; rw [plR_len, plR_len] at h1; have := HLl.out; omega⟩, Below.refl _ _⟩
  go_enter Tryz.func41, Tryz.ntmps41
  go_wp2_with fail
  go_ret
  exact HF.out
def EqF (f g : Fc) : Prop := f.es = g.es /\ f.p.P = g.p.P /\ plR f.rs = plR g.rs
attribute [local go_sem ↓] ldFa_eq stFa_eq
attribute [local go_sem] cells_FaV FaC_size
theorem equal10_true (f g : Fc) (w : World) (hF : FcOk w f) (hG : FcOk w g) (hE : EqF f g) : Calls Tryz.prog 16 #[FaV (mkF f), FaV (mkF g)] w fun e w' => e = .returned (.bool true) /\ Below w.heap.size w w' := by
 obtain ⟨wk, hwk, HX, HY, HBK⟩ := box2F w f g
 have HS := hide (hF.below HBK.out)
 have HR := hide (hG.below HBK.out)
 have HE := hide hE
 clear hF hG hE
 obtain ⟨c0, c3⟩ := HX.out.cs
 obtain ⟨d0, d3⟩ := HY.out.cs
 go_enter Tryz.func16, Tryz.ntmps16
 go_wp2_with fail
 clear hwk
 refine (K.same_any f.ao g.ao f.an f.ac g.an g.ac f.es g.es _ HS.out.es HR.out.es HE.out.1).mono ?_
 rintro e w1 ⟨rfl, b1⟩
 have HB1 := hide (HBK.out.trans (b1.mono HBK.out.size))
 have HX1 := hide (HX.out.below b1)
 have HY1 := hide (HY.out.below b1)
 have HS1 := hide (HS.out.below b1)
 have HR1 := hide (HR.out.below b1)
 clear b1 c0 c3 d0 d3
 have lp := run_ldP HX1.out.past
 have lq := run_ldP HY1.out.past
 go_wp2_with fail
 clear lp lq
 refine (samePast_any f.p g.p _ HS1.out.p HR1.out.p).mono ?_
 rintro e w2 ⟨b, rfl, hb, b2⟩
 obtain rfl : b = true := hb.2 HE.out.2.1
 have HB2 := hide (HB1.out.trans (b2.mono HB1.out.size))
 have HX2 := hide (HX1.out.below b2)
 have HY2 := hide (HY1.out.below b2)
 have HS2 := hide (HS1.out.below b2)
 have HR2 := hide (HR1.out.below b2)
 clear b2 hb
 obtain ⟨-, c3⟩ := HX2.out.cs
 obtain ⟨-, d3⟩ := HY2.out.cs
 go_wp2_with fail
 clear c3 d3
 refine (sameRecs10_any f.ro g.ro f.rn g.rn f.rc g.rc f.rs g.rs _ HS2.out.rs HR2.out.rs).mono ?_
 rintro e w3 ⟨b, rfl, hb, b3⟩
 obtain rfl : b = true := hb.2 HE.out.2.2
 have HB3 := hide (HB2.out.trans (b3.mono HB2.out.size))
 clear b3 hb
 go_wp2_with fail
 go_ret
 exact ⟨rfl, HB3.out⟩
end
section
open Go.RowKit
structure IsF (h : Fc) (E : K.En -> Prop) (M : Nat -> Int -> Prop) (R : Rp -> Prop) : Prop where
 form : FormF h
 len : h.es.length = h.an /\ h.rs.length = h.rn
 es : ∀ x, x ∈ h.es ↔ E x
 p : ∀ r, r < 16 -> ∀ n, mem (runsAt h.p.P r) n ↔ M r n
 rs : ∀ y, y ∈ plR h.rs ↔ R y
theorem IsF.chk {h : Fc} {E : K.En -> Prop} {M : Nat -> Int -> Prop} {R : Rp -> Prop} (i : IsF h E M R) : K.chk h.es = 0 := (chk_okN i.len.1).2 i.form.1
theorem IsF.srt {h : Fc} {E : K.En -> Prop} {M : Nat -> Int -> Prop} {R : Rp -> Prop} (i : IsF h E M R) : Srt ck (plR h.rs) := (okR_iff.1 (by rw [i.len.2]; exact i.form.2.2)).2
theorem IsF.eq {h h' : Fc} {E E' : K.En -> Prop} {M M' : Nat -> Int -> Prop} {R R' : Rp -> Prop} (i : IsF h E M R) (j : IsF h' E' M' R') (e1 : ∀ x, E x ↔ E' x) (e2 : ∀ r, r < 16 -> ∀ n, M r n ↔ M' r n) (e3 : ∀ y, R y ↔ R' y) : EqF h h' := by
 refine ⟨K.asc_unique (K.chk_asc' i.chk) (K.chk_asc' j.chk) (fun x => by rw [i.es, j.es]; exact e1 x), ?_, Srt.uniq ck_tot i.srt j.srt (fun y => by rw [i.rs, j.rs]; exact e3 y)⟩
 exact (canon_iff.2 i.form.2.1 : CanonOf (runsAt h.p.P) h.p.P).unique (canon_iff.2 j.form.2.1 : CanonOf (runsAt h'.p.P) h'.p.P) (fun r hr n => by rw [i.p r hr, j.p r hr]; exact e2 r hr n)
def WellF (f g : Fc) : Prop := FormF f /\ FormF g /\ ∀ e ∈ f.es, ¬ ClE e g
theorem sameDot_symm {x y : K.En} (h : K.sameDot x y = true) : K.sameDot y x = true := by
 unfold K.sameDot at h ⊢
 simp only [Bool.and_eq_true, beq_iff_eq] at h ⊢
 exact ⟨h.1.symm, h.2.symm⟩
theorem WellF.symm {f g : Fc} (h : WellF f g) : WellF g f := ⟨h.2.1, h.1, fun e he ⟨y, hy, hd, hne⟩ => h.2.2 y hy ⟨e, he, sameDot_symm hd, fun q => hne q.symm⟩⟩
theorem sameDot_dotOf {x y : K.En} (h : K.sameDot x y = true) : dotOf x = dotOf y := by
 unfold K.sameDot at h
 simp only [Bool.and_eq_true, beq_iff_eq] at h
 unfold dotOf
 rw [h.1, h.2]
attribute [local go_sem ↓] ldFa_eq stFa_eq ldD_eq stD_eq
attribute [local go_sem] cells_FaV FaC_size cells_RV RC_size zero_RC
end
section
open Go.RowKit
def FcL (w w' : World) (e : Ending) (D : Fc -> Prop) : Prop := ∃ h, e = .returned (FaV (mkF h)) /\ FcOk w' h /\ FcR h /\ FcN w.heap.size h /\ Below w.heap.size w w' /\ D h
def LeOf (f g h : Fc) : Prop := h.es = f.es.filter (notIn g.es) /\ (∃ C : Nat -> List Rn, (∀ r, r < 16 -> MinusOf (runsAt f.p.P r) (runsAt g.p.P r) (C r)) /\ CanonOf C h.p.P) /\ LrOf f.rs g.rs h.rs /\ h.rn <= f.rn
def WiOf (f g : Fc) : Prop := (∀ x ∈ f.es, x ∈ g.es) /\ (∀ r, r < 16 -> ∀ n, mem (runsAt f.p.P r) n -> mem (runsAt g.p.P r) n) /\ ∀ y ∈ plR f.rs, y ∈ plR g.rs
theorem LeOf.e0 {w : World} {f g h : Fc} (H : LeOf f g h) (hw : FcOk w h) : h.an = 0 ↔ ∀ x ∈ f.es, x ∈ g.es := by
 rw [<- hw.es.1, H.1, List.length_eq_zero_iff, List.filter_eq_nil_iff]
 exact ⟨fun q x hx => Classical.byContradiction fun hn => q x hx (notIn_iff.2 hn), fun q x hx hn => notIn_iff.1 hn (q x hx)⟩
theorem LeOf.r0 {w : World} {f g h : Fc} (H : LeOf f g h) (hw : FcOk w h) : h.rn = 0 ↔ ∀ y ∈ plR f.rs, y ∈ plR g.rs := by
 have hl : (plR h.rs).length = h.rn := by rw [<- hw.rs.len]; simp [plR]
 rw [<- hl, List.length_eq_zero_iff, List.eq_nil_iff_forall_not_mem]
 exact ⟨fun q y hy => Classical.byContradiction fun hn => q y ((H.2.2.1.2.2 y).2 ⟨hy, hn⟩), fun q y hy => ((H.2.2.1.2.2 y).1 hy).2 (q y ((H.2.2.1.2.2 y).1 hy).1)⟩
theorem LeOf.g0 {f g h : Fc} (H : LeOf f g h) : (∀ r, r < 16 -> ∀ n, ¬ mem (runsAt h.p.P r) n) ↔ ∀ r, r < 16 -> ∀ n, mem (runsAt f.p.P r) n -> mem (runsAt g.p.P r) n := by
 obtain ⟨C, h1, h2⟩ := H.2.1
 constructor
 ·intro q r hr n hn
  exact Classical.byContradiction fun hg => q r hr n ((canon_mem h2 r hr n).2 (((h1 r hr).2 n).2 ⟨hn, hg⟩))
 ·intro q r hr n hn
  have := ((h1 r hr).2 n).1 ((canon_mem h2 r hr n).1 hn)
  exact this.2 (q r hr n this.1)
theorem fcl_give {w W : World} {g : Nat} {m0 : FacV} {f : Fc} (D : Fc -> Prop) (hX : FaBox W g m0) (hF : FcOk W f) (hr : FcR f) (hn : FcN (g + 1) f) (hb : Below w.heap.size w W) (hg : w.heap.size <= g) (hD : D f) :
  FaBox (W.setRow g (FaC (mkF f))) g (mkF f) /\ FcL w (W.setRow g (FaC (mkF f))) (.returned (FaV (mkF f))) D :=
 ⟨hX.setRow, f, rfl, hF.off2 hn (fun k hk => setRow_other _ _ _ _ (by omega)), hr, hn.mono (by omega), below_setRow hb hg, hD⟩
attribute [local go_sem ↓] ldP_eq stP_eq ldFa_eq stFa_eq bldF_eq
attribute [local go_sem] cells_PV PC_size cells_FaV FaC_size zero_FaZ run_bldF0 run_bldF12
theorem tless_any (f g : Fc) (w : World) (hF : FcOk w f) (hG : FcOk w g) (hf : FormF f) (hg : FormF g) (hn : f.rn <= 2199023255551) :
  Calls Tryz.prog 47 #[FaV (mkF f), FaV (mkF g)] w fun e w' => FcL w w' e (LeOf f g) := by
 obtain ⟨w2, hw2, HX2, HY2, HB2⟩ := box2F w f g
 have b3 := below_new w2 (.cells (FaC (mkF fz0)) 29)
 have X3 := FaBox_new w2 (mkF fz0)
 have hs2 : w2.heap.size = w.heap.size + 2 := by rw [<- hw2]; simp
 obtain ⟨wk, hwk⟩ : ∃ wk, w2.alloc (.cells (FaC (mkF fz0)) 29) = wk := ⟨_, rfl⟩
 rw [hwk] at b3 X3
 rw [hs2] at X3
 obtain ⟨G, hG0⟩ : ∃ G, w.heap.size = G := ⟨_, rfl⟩
 rw [hG0] at X3 HX2 HY2
 have HX := hide (HX2.out.below b3)
 have HY := hide (HY2.out.below b3)
 have HZ := hide X3
 have HBK := hide (HB2.out.trans (b3.mono HB2.out.size))
 have HF := hide (hF.below HBK.out)
 have HG := hide (hG.below HBK.out)
 have HR : Hid (FormF f /\ FormF g /\ f.rn <= 2199023255551) := ⟨hf, hg, hn⟩
 have HGs : Hid (w.heap.size = G) := hG0
 have HCg := hide ((chk_okN hG.es.1).2 hg.1)
 clear hF hG hf hg hn b3 X3 HX2 HY2 HB2
 have HSt : Hid (∀ W : World, W.heap[G]? = wk.heap[G]? -> W.heap[G + 1]? = wk.heap[G + 1]? -> (W.cell? ⟨G, 0, none⟩ = some (.slice f.ao f.an f.ac) /\ W.cell? ⟨G, 3, none⟩ = some (.slice f.ro f.rn f.rc) /\ (ldP (.pointer (some ⟨G, 1, none⟩))).run Tryz.prog W = .ok (PV f.p) W) /\ (W.cell? ⟨G + 1, 0, none⟩ = some (.slice g.ao g.an g.ac) /\ W.cell? ⟨G + 1, 3, none⟩ = some (.slice g.ro g.rn g.rc) /\ (ldP (.pointer (some ⟨G + 1, 1, none⟩))).run Tryz.prog W = .ok (PV g.p) W)) := fun W h1 h2 => by
  have X : FaBox W G (mkF f) := h1.trans HX.out
  have Y : FaBox W (G + 1) (mkF g) := h2.trans HY.out
  exact ⟨⟨X.cs.1, X.cs.2, run_ldP X.past⟩, Y.cs.1, Y.cs.2, run_ldP Y.past⟩
 go_enter Tryz.func47, Tryz.ntmps47
 go_upto_region 1 with fail
 clear hw2 hwk hs2 hG0
 refine wp_region_held_drew (S := fun v => (v.cell? ⟨G, 0, none⟩ = some (.slice f.ao f.an f.ac) /\ v.cell? ⟨G, 3, none⟩ = some (.slice f.ro f.rn f.rc) /\ (ldP (.pointer (some ⟨G, 1, none⟩))).run Tryz.prog v = .ok (PV f.p) v) /\ (v.cell? ⟨G + 1, 0, none⟩ = some (.slice g.ao g.an g.ac) /\ v.cell? ⟨G + 1, 3, none⟩ = some (.slice g.ro g.rn g.rc) /\ (ldP (.pointer (some ⟨G + 1, 1, none⟩))).run Tryz.prog v = .ok (PV g.p) v)) (by kernel_rfl) (HSt.out _ rfl rfl) (fun hHeld => ?_)
 refine wTk 0 ⟨some 5, .fieldAddr 29 (.tmp 2) 0, 0, "order.go:52", #[], none⟩ rfl ?_
 refine wTk 1 ⟨some 6, .load 22 (.tmp 5), 22, "order.go:52", #[⟨0, .data⟩], none⟩ rfl ?_
 refine wTk 2 ⟨some 7, .fieldAddr 29 (.tmp 3) 0, 0, "order.go:52", #[], none⟩ rfl ?_
 refine wTk 3 ⟨some 8, .load 22 (.tmp 7), 22, "order.go:52", #[⟨2, .data⟩], none⟩ rfl ?_
 refine wTk 5 ⟨some 10, .fieldAddr 29 (.tmp 2) 1, 0, "order.go:52", #[], none⟩ rfl ?_
 refine wTk 6 ⟨some 11, .load 26 (.tmp 10), 26, "order.go:52", #[⟨5, .data⟩], none⟩ rfl ?_
 refine wTk 7 ⟨some 12, .fieldAddr 29 (.tmp 3) 1, 0, "order.go:52", #[], none⟩ rfl ?_
 refine wTk 8 ⟨some 13, .load 26 (.tmp 12), 26, "order.go:52", #[⟨7, .data⟩], none⟩ rfl ?_
 refine wTk 10 ⟨some 15, .fieldAddr 29 (.tmp 2) 2, 0, "order.go:52", #[], none⟩ rfl ?_
 refine wTk 11 ⟨some 16, .load 27 (.tmp 15), 27, "order.go:52", #[⟨10, .data⟩], none⟩ rfl ?_
 refine wTk 12 ⟨some 17, .fieldAddr 29 (.tmp 3) 2, 0, "order.go:52", #[], none⟩ rfl ?_
 refine wTk 13 ⟨some 18, .load 27 (.tmp 17), 27, "order.go:52", #[⟨12, .data⟩], none⟩ rfl ?_
 refine wpAnyH_ready (rs := [4]) (by kernel_rfl) (by simp) (.cons rfl (fun K hK => ?_) .nil)
 go_simp
 go_wp2_with fail
 have bd := below_drew1 wk
 refine (lessAdds_any f.ao g.ao f.an f.ac g.an g.ac f.es g.es _ (HF.out.es.below bd) (HG.out.es.below bd) HCg.out).mono ?_
 rintro x wa ⟨ao, n, c, rfl, S4, b4, n4⟩
 have ba := bd.trans (b4.mono bd.size)
 have HBa := hide (HBK.out.trans (ba.mono HBK.out.size))
 have HFa := hide (HF.out.below ba)
 have HGa := hide (HG.out.below ba)
 have HZa := hide (HZ.out.below ba)
 have HSa := hide (HSt.out _ (ba.block G HX.out.lt) (ba.block (G + 1) HY.out.lt))
 have HEa := hide S4
 have HNa : Hid (∀ ad, ao = some ad -> G + 3 <= ad.block) := fun ad e => by
  have h1 := n4 ad e
  have h2 := bd.size
  have h3 := HZ.out.lt
  omega
 refine hK.out _ _ HSa.out (fun hHeld => ?_)
 clear hK K S4 b4 n4
 refine wpAnyH_ready (rs := [9]) (by kernel_rfl) (by simp) (.cons rfl (fun K hK => ?_) .nil)
 go_simp
 go_wp2_with fail
 refine (pastMinus_any f.p g.p _ HFa.out.p HGa.out.p).mono ?_
 rintro x wb ⟨p, rfl, S5, n5, b5, c5⟩
 have bb := ba.trans (b5.mono ba.size)
 have HBb := hide (HBK.out.trans (bb.mono HBK.out.size))
 have HFb := hide (HF.out.below bb)
 have HGb := hide (HG.out.below bb)
 have HZb := hide (HZ.out.below bb)
 have HSb := hide (HSt.out _ (bb.block G HX.out.lt) (bb.block (G + 1) HY.out.lt))
 have HEb := hide (HEa.out.below b5)
 have HPb := hide S5
 have HNb : Hid (PNew (G + 3) p) := n5.mono (by have := HZa.out.lt; omega)
 have HCb := hide c5
 refine hK.out _ _ HSb.out (fun hHeld => ?_)
 clear hK K S5 b5 n5 c5
 refine wpAnyH_ready (rs := [14]) (by kernel_rfl) (by simp) (.cons rfl (fun K hK => ?_) .nil)
 go_simp
 go_wp2_with fail
 refine (lessRecs_any f.ro g.ro f.rn f.rc g.rn g.rc f.rs g.rs _ HFb.out.rs HGb.out.rs HR.out.1.2.2 HR.out.2.1.2.2 HR.out.2.2).mono ?_
 rintro x wc ⟨h5, F5, rfl, G5, m5, U5⟩
 have b6 := G5.below
 have bc := bb.trans (b6.mono bb.size)
 have HBc := hide (HBK.out.trans (bc.mono HBK.out.size))
 have HZc := hide (HZ.out.below bc)
 have HSc := hide (HSt.out _ (bc.block G HX.out.lt) (bc.block (G + 1) HY.out.lt))
 have hz : G + 3 <= wb.heap.size := by have := HZb.out.lt; omega
 have HEc := hide (HEb.out.below b6)
 have HPc := hide (HPb.out.below b6)
 have HRc : Hid (RcT wc h5.o h5.n h5.c F5 /\ (∀ ad, h5.o = some ad -> G + 3 <= ad.block) /\ (∀ r ∈ F5, PNew (G + 3) r.p)) := ⟨G5.row, fun ad e => Nat.le_trans hz (G5.new ad e), fun r hr => (G5.fresh r hr).mono hz⟩
 have HUc := hide (And.intro U5 m5)
 obtain ⟨ho, hn, hc⟩ := h5
 rw [show HsV ⟨ho, hn, hc⟩ = Value.slice ho hn hc from rfl]
 have HFc : Hid (FcOk wc ⟨ao, n, c, f.es.filter (notIn g.es), p, ho, hn, hc, F5⟩) := ⟨HEc.out, HPc.out, HRc.out.1.src⟩
 have HFn : Hid (FcN (G + 2 + 1) ⟨ao, n, c, f.es.filter (notIn g.es), p, ho, hn, hc, F5⟩) := ⟨HNa.out, HNb.out, HRc.out.2.1, HRc.out.2.2⟩
 have stz := run_stFa (m' := mkF ⟨ao, n, c, f.es.filter (notIn g.es), p, ho, hn, hc, F5⟩) HZc.out
 have HE := hide (fcl_give (w := w) (f := ⟨ao, n, c, f.es.filter (notIn g.es), p, ho, hn, hc, F5⟩) (LeOf f g) HZc.out HFc.out ⟨HRc.out.1.room, HRc.out.1.nil⟩ HFn.out HBc.out (by rw [HGs.out]; omega) ⟨rfl, HCb.out, HUc.out.1, HUc.out.2⟩)
 replace stz : (stFa (.pointer (some ⟨G + 2, 0, none⟩)) (.agg #[.slice ao n c, .slice p.vo p.vn p.vc, .slice p.co p.cn p.cc, .slice ho hn hc])).run Tryz.prog wc = .ok () (wc.setRow (G + 2) (FaC (mkF ⟨ao, n, c, f.es.filter (notIn g.es), p, ho, hn, hc, F5⟩))) := stz
 have HSz := hide (HSt.out (wc.setRow (G + 2) (FaC (mkF ⟨ao, n, c, f.es.filter (notIn g.es), p, ho, hn, hc, F5⟩))) ((setRow_other _ _ _ _ (by omega)).trans (bc.block G HX.out.lt)) ((setRow_other _ _ _ _ (by omega)).trans (bc.block (G + 1) HY.out.lt)))
 have lbf : ∀ W : World, (bldF #[(0, .slice ao n c), (1, PV p), (2, .slice ho hn hc)]).run Tryz.prog W = .ok (.agg #[.slice ao n c, .slice p.vo p.vn p.vc, .slice p.co p.cn p.cc, .slice ho hn hc]) W := fun W => run_bldF12 ao ho n c hn hc p W
 refine hK.out _ _ HSc.out (fun hHeld => ?_)
 clear hK K G5 m5 U5 b6 bc bb ba bd hz
 refine wTk 15 ⟨some 20, .build 29 #[(0, .tmp 9), (1, .tmp 14), (2, .tmp 19)], 29, "order.go:52", #[⟨4, .data⟩, ⟨9, .data⟩, ⟨14, .data⟩], none⟩ rfl ?_
 refine wpAnyH_ready (rs := [16]) (by kernel_rfl) (by simp) (.cons rfl (fun K hK => ?_) .nil)
 go_simp
 refine hK.out _ _ HSz.out (fun hHeld => ?_)
 clear hK K stz lbf
 refine wpAnyH_done (by kernel_rfl) ?_ _
 clear hHeld
 go_wp2_with fail
 refine bodyPost_ret (res1Fa rfl rfl HE.out.1) rfl ?_
 exact HE.out.2
theorem twithin_any (f g : Fc) (w : World) (hF : FcOk w f) (hG : FcOk w g) (hf : FormF f) (hg : FormF g) (hn : f.rn <= 2199023255551) :
  Calls Tryz.prog 42 #[FaV (mkF f), FaV (mkF g)] w fun e w' => GivesB w w' e (WiOf f g) := by
 obtain ⟨wk, hwk, HX, HY, HBK⟩ := box2F w f g
 have HF := hide (hF.below HBK.out)
 have HG := hide (hG.below HBK.out)
 have HR : Hid (FormF f /\ FormF g /\ f.rn <= 2199023255551) := ⟨hf, hg, hn⟩
 clear hF hG hf hg hn
 have lf := run_ldFa HX.out
 have lg := run_ldFa HY.out
 go_enter Tryz.func42, Tryz.ntmps42
 go_wp2_with fail
 clear hwk lf lg
 refine (tless_any f g _ HF.out HG.out HR.out.1 HR.out.2.1 HR.out.2.2).mono ?_
 rintro e w1 ⟨h, rfl, F1, R1, -, b1, L1⟩
 obtain ⟨g1, hg1⟩ : ∃ g1, w1.heap.size = g1 := ⟨_, rfl⟩
 obtain ⟨w2, hst, X2, B2, -⟩ := madeFa w1 (mkF h) g1 hg1
 replace hst : (stFa (.pointer (some ⟨g1, 0, none⟩)) (FaV (mkF h))).run Tryz.prog (w1.alloc (.cells (FaC (mkF fz0)) 29)) = .ok () w2 := hst
 have b12 := b1.trans (B2.mono b1.size)
 have HB2 := hide (HBK.out.trans (b12.mono HBK.out.size))
 have HX2 := hide X2
 have HL := hide L1
 have e0 := L1.e0 F1
 have r0 := L1.r0 F1
 have F2 := hide (F1.below B2)
 have HE0 := hide e0
 have HR0 := hide r0
 obtain ⟨c0, c3⟩ := X2.cs
 have lp := run_ldP X2.past
 clear e0 r0 F1 R1 b1 L1 X2 B2 b12
 by_cases h0 : h.an = 0
 rotate_left
 ·have hz : ((h.an : Int) == 0) = false := by simp [h0]
  have hz2 : decide ((h.an : Int) = 0) = false := by simp [h0]
  have HE : Hid (GivesB w w2 (.returned (.bool false)) (WiOf f g)) := ⟨false, rfl, ⟨fun h => (by cases h), fun q => absurd (HE0.out.2 q.1) h0⟩, HB2.out⟩
  go_wp2_with fail
  go_ret
  exact HE.out
 have hz : ((h.an : Int) == 0) = true := by simp [h0]
 have hz2 : decide ((h.an : Int) = 0) = true := by simp [h0]
 have HW1 := hide (HE0.out.1 h0)
 go_wp2_with fail
 clear hst hg1 hz hz2 h0 c0
 refine (pastEmpty_any h.p _ F2.out.p).mono ?_
 rintro e w3 ⟨b, rfl, hb, b3⟩
 have HB3 := hide (HB2.out.trans (b3.mono HB2.out.size))
 have hq := hb.trans HL.out.g0
 have c3 := (HX2.out.below b3).cs.2
 clear hb b3 lp
 cases b with
 | false =>
  have HE : Hid (GivesB w w3 (.returned (.bool false)) (WiOf f g)) := ⟨false, rfl, ⟨fun h => (by cases h), fun q => by have := hq.2 q.2.1; cases this⟩, HB3.out⟩
  clear hq
  go_wp2_with fail
  go_ret
  exact HE.out
 | true =>
  have HW2 := hide (hq.1 rfl)
  clear hq
  by_cases h0 : h.rn = 0
  ·have hz : ((h.rn : Int) == 0) = true := by simp [h0]
   have hz2 : decide ((h.rn : Int) = 0) = true := by simp [h0]
   have HE : Hid (GivesB w w3 (.returned (.bool true)) (WiOf f g)) := ⟨true, rfl, ⟨fun _ => ⟨HW1.out, HW2.out, HR0.out.1 h0⟩, fun _ => rfl⟩, HB3.out⟩
   go_wp2_with fail
   go_ret
   exact HE.out
  ·have hz : ((h.rn : Int) == 0) = false := by simp [h0]
   have hz2 : decide ((h.rn : Int) = 0) = false := by simp [h0]
   have HE : Hid (GivesB w w3 (.returned (.bool false)) (WiOf f g)) := ⟨false, rfl, ⟨fun h => (by cases h), fun q => absurd (HR0.out.2 q.2.2) h0⟩, HB3.out⟩
   go_wp2_with fail
   go_ret
   exact HE.out
def WtD (f g : Fc) (b : Bool) (er : Int) : Prop := (¬ (FormF f /\ FormF g) /\ b = false /\ er = 1) ∨ (FormF f /\ FormF g /\ er = 0 /\ (b = true ↔ WiOf f g))
theorem tWithin_any (f g : Fc) (w : World) (hF : FcOk w f) (hG : FcOk w g) (hn : f.rn <= 2199023255551) :
  Calls Tryz.prog 23 #[FaV (mkF f), FaV (mkF g)] w fun e w' => ∃ b er, e = .returned (.tuple #[.bool b, .int .i64 er]) /\ WtD f g b er /\ Below w.heap.size w w' := by
 obtain ⟨wk, hwk, HX, HY, HBK⟩ := box2F w f g
 have HF := hide (hF.below HBK.out)
 have HG := hide (hG.below HBK.out)
 have HN := hide hn
 clear hF hG hn
 have lf := run_ldFa HX.out
 have lg := run_ldFa HY.out
 go_enter Tryz.func23, Tryz.ntmps23
 go_wp2_with fail
 clear hwk lf lg
 refine (checkBoth_any f g _ HF.out HG.out).mono ?_
 rintro e w1 ⟨x, rfl, hx, b1⟩
 have HB1 := hide (HBK.out.trans (b1.mono HBK.out.size))
 have lf := run_ldFa (HX.out.below b1)
 have lg := run_ldFa (HY.out.below b1)
 have HF1 := hide (HF.out.below b1)
 have HG1 := hide (HG.out.below b1)
 clear b1
 rcases hx with ⟨rfl, h1, h2⟩ | ⟨rfl, h1⟩
 rotate_left
 ·have HE : Hid (∃ b er, Ending.returned (.tuple #[.bool false, .int .i64 1]) = .returned (.tuple #[.bool b, .int .i64 er]) /\ WtD f g b er /\ Below w.heap.size w w1) := ⟨false, 1, rfl, .inl ⟨h1, rfl, rfl⟩, HB1.out⟩
  clear h1 lf lg
  go_wp2_with fail
  go_ret2
  exact HE.out
 have HFo : Hid (FormF f /\ FormF g) := ⟨h1, h2⟩
 clear h1 h2
 go_wp2_with fail
 clear lf lg
 refine (twithin_any f g _ HF1.out HG1.out HFo.out.1 HFo.out.2 HN.out).mono ?_
 rintro e w2 ⟨b, rfl, hb, b2⟩
 have HE : Hid (∃ c er, Ending.returned (.tuple #[.bool b, .int .i64 0]) = .returned (.tuple #[.bool c, .int .i64 er]) /\ WtD f g c er /\ Below w.heap.size w w2) := ⟨b, 0, rfl, .inr ⟨HFo.out.1, HFo.out.2, rfl, hb⟩, HB1.out.trans (b2.mono HB1.out.size)⟩
 clear hb b2
 go_wp2_with fail
 go_ret2
 exact HE.out
end
section
open Go.RowKit
def LsD (f g h : Fc) (er : Int) : Prop := (¬ (FormF f /\ FormF g) /\ er = 1 /\ h = fz0) ∨ (FormF f /\ FormF g /\ er = 0 /\ LeOf f g h)
attribute [local go_sem ↓] ldP_eq stP_eq ldFa_eq stFa_eq bldF_eq
attribute [local go_sem] cells_PV PC_size cells_FaV FaC_size zero_FaZ run_bldF0 run_bldF12
theorem tLess_any (f g : Fc) (w : World) (hF : FcOk w f) (hG : FcOk w g) (hn : f.rn <= 2199023255551) :
  Calls Tryz.prog 24 #[FaV (mkF f), FaV (mkF g)] w fun e w' => FcD w w' e (LsD f g) := by
 obtain ⟨w2, hw2, HX2, HY2, HB2⟩ := box2F w f g
 have b3 := below_new w2 (.cells (FaC (mkF fz0)) 29)
 have X3 := FaBox_new w2 (mkF fz0)
 have hs2 : w2.heap.size = w.heap.size + 2 := by rw [<- hw2]; simp
 obtain ⟨wk, hwk⟩ : ∃ wk, w2.alloc (.cells (FaC (mkF fz0)) 29) = wk := ⟨_, rfl⟩
 rw [hwk] at b3 X3
 rw [hs2] at X3
 obtain ⟨G, hG0⟩ : ∃ G, w.heap.size = G := ⟨_, rfl⟩
 rw [hG0] at X3 HX2 HY2
 have HX := hide (HX2.out.below b3)
 have HY := hide (HY2.out.below b3)
 have HZ := hide X3
 have HBK := hide (HB2.out.trans (b3.mono HB2.out.size))
 have HF := hide (hF.below HBK.out)
 have HG := hide (hG.below HBK.out)
 have HN := hide hn
 have HGs : Hid (w.heap.size = G) := hG0
 clear hF hG hn b3 X3 HX2 HY2 HB2
 have lf := run_ldFa HX.out
 have lg := run_ldFa HY.out
 go_enter Tryz.func24, Tryz.ntmps24
 go_wp2_with fail
 clear hw2 hwk hs2 hG0
 refine (checkBoth_any f g _ HF.out HG.out).mono ?_
 rintro e w3 ⟨x, rfl, hx, b3⟩
 have HB3 := hide (HBK.out.trans (b3.mono HBK.out.size))
 have HX3 := hide (HX.out.below b3)
 have HY3 := hide (HY.out.below b3)
 have HZ3 := hide (HZ.out.below b3)
 have HF3 := hide (HF.out.below b3)
 have HG3 := hide (HG.out.below b3)
 clear b3 lf lg
 rcases hx with ⟨rfl, h1, h2⟩ | ⟨rfl, h1⟩
 rotate_left
 ·have st0 := run_stFa (m' := mkF fz0) HZ3.out
  have HE := hide (give_fc (w := w) (f := fz0) (er := 1) (LsD f g) HZ3.out (fz0_ok _) fz0_row (fz0_new _) HB3.out (by rw [HGs.out]; omega) (.inl ⟨h1, rfl, rfl⟩))
  clear h1
  go_wp2_with fail
  clear st0
  refine bodyPost_ret (res2Fb rfl rfl rfl HE.out.1) rfl ?_
  exact HE.out.2
 have HFo : Hid (FormF f /\ FormF g) := ⟨h1, h2⟩
 clear h1 h2
 have lf := run_ldFa HX3.out
 have lg := run_ldFa HY3.out
 go_wp2_with fail
 clear lf lg
 refine (tless_any f g _ HF3.out HG3.out HFo.out.1 HFo.out.2 HN.out).mono ?_
 rintro e w4 ⟨h, rfl, F4, R4, N4, b4, L4⟩
 have HB4 := hide (HB3.out.trans (b4.mono HB3.out.size))
 have HZ4 := hide (HZ3.out.below b4)
 have hz : G + 2 + 1 <= w3.heap.size := by have := HZ3.out.lt; omega
 have stz := run_stFa (m' := mkF h) HZ4.out
 replace stz : (stFa (.pointer (some ⟨G + 2, 0, none⟩)) (FaV (mkF h))).run Tryz.prog w4 = .ok () (w4.setRow (G + 2) (FaC (mkF h))) := stz
 have HE := hide (give_fc (w := w) (f := h) (er := 0) (LsD f g) HZ4.out F4 R4 (N4.mono hz) HB4.out (by rw [HGs.out]; omega) (.inr ⟨HFo.out.1, HFo.out.2, rfl, L4⟩))
 clear F4 R4 N4 b4 L4 hz
 go_wp2_with fail
 clear stz
 refine bodyPost_ret (res2Fb rfl rfl rfl HE.out.1) rfl ?_
 exact HE.out.2
def ordK (x y : Bool) : Int := if x && y then 0 else if x then 1 else if y then 2 else 3
def OrD (f g : Fc) (k er : Int) : Prop := (¬ (FormF f /\ FormF g) /\ k = 0 /\ er = 1) ∨ (FormF f /\ FormF g /\ er = 0 /\ ∃ x y : Bool, (x = true ↔ WiOf f g) /\ (y = true ↔ WiOf g f) /\ k = ordK x y)
theorem tOrder_any (f g : Fc) (w : World) (hF : FcOk w f) (hG : FcOk w g) (hn : f.rn <= 2199023255551) (hm : g.rn <= 2199023255551) :
  Calls Tryz.prog 17 #[FaV (mkF f), FaV (mkF g)] w fun e w' => ∃ k er, e = .returned (.tuple #[.int .i64 k, .int .i64 er]) /\ OrD f g k er /\ Below w.heap.size w w' := by
 obtain ⟨w2, hw2, HX, HY, HBK⟩ := box2F w f g
 obtain ⟨G, hG0⟩ : ∃ G, w.heap.size = G := ⟨_, rfl⟩
 rw [hG0] at HX HY
 have HF := hide (hF.below HBK.out)
 have HG := hide (hG.below HBK.out)
 have HN := hide (And.intro hn hm)
 clear hF hG hn hm
 have lf := run_ldFa HX.out
 have lg := run_ldFa HY.out
 go_enter Tryz.func17, Tryz.ntmps17
 go_wp2_with fail
 clear hw2 hG0 lf lg
 refine (checkBoth_any f g _ HF.out HG.out).mono ?_
 rintro e w3 ⟨x, rfl, hx, b3⟩
 have HB3 := hide (HBK.out.trans (b3.mono HBK.out.size))
 have HX3 := hide (HX.out.below b3)
 have HY3 := hide (HY.out.below b3)
 have HF3 := hide (HF.out.below b3)
 have HG3 := hide (HG.out.below b3)
 clear b3
 rcases hx with ⟨rfl, h1, h2⟩ | ⟨rfl, h1⟩
 rotate_left
 ·have HE : Hid (∃ k er, Ending.returned (.tuple #[.int .i64 0, .int .i64 1]) = .returned (.tuple #[.int .i64 k, .int .i64 er]) /\ OrD f g k er /\ Below w.heap.size w w3) := ⟨0, 1, rfl, .inl ⟨h1, rfl, rfl⟩, HB3.out⟩
  clear h1
  go_wp2_with fail
  go_ret2
  exact HE.out
 have HFo : Hid (FormF f /\ FormF g) := ⟨h1, h2⟩
 clear h1 h2
 have HSt : Hid (∀ W : World, W.heap[G]? = w3.heap[G]? -> W.heap[G + 1]? = w3.heap[G + 1]? -> (ldFa (.pointer (some ⟨G, 0, none⟩))).run Tryz.prog W = .ok (FaV (mkF f)) W /\ (ldFa (.pointer (some ⟨G + 1, 0, none⟩))).run Tryz.prog W = .ok (FaV (mkF g)) W) := fun W h1 h2 => by
  have X : FaBox W G (mkF f) := h1.trans HX3.out
  have Y : FaBox W (G + 1) (mkF g) := h2.trans HY3.out
  exact ⟨run_ldFa X, run_ldFa Y⟩
 go_upto_region 4 with fail
 refine wp_region_held_drew (S := fun v => (ldFa (.pointer (some ⟨G, 0, none⟩))).run Tryz.prog v = .ok (FaV (mkF f)) v /\ (ldFa (.pointer (some ⟨G + 1, 0, none⟩))).run Tryz.prog v = .ok (FaV (mkF g)) v) (by kernel_rfl) (HSt.out _ rfl rfl) (fun hHeld => ?_)
 refine wTk 0 ⟨some 15, .load 29 (.tmp 2), 29, "order.go:31", #[], none⟩ rfl ?_
 refine wTk 1 ⟨some 16, .load 29 (.tmp 3), 29, "order.go:31", #[], none⟩ rfl ?_
 refine wTk 3 ⟨some 18, .load 29 (.tmp 3), 29, "order.go:31", #[], none⟩ rfl ?_
 refine wTk 4 ⟨some 19, .load 29 (.tmp 2), 29, "order.go:31", #[], none⟩ rfl ?_
 refine wpAnyH_ready (rs := [2]) (by kernel_rfl) (by simp) (.cons rfl (fun K hK => ?_) .nil)
 go_simp
 go_wp2_with fail
 have bd := below_drew1 w3
 refine (twithin_any f g _ (HF3.out.below bd) (HG3.out.below bd) HFo.out.1 HFo.out.2 HN.out.1).mono ?_
 rintro e wa ⟨x, rfl, hx, ba0⟩
 have ba := bd.trans (ba0.mono bd.size)
 have HFa := hide (HF3.out.below ba)
 have HGa := hide (HG3.out.below ba)
 have HSa := hide (HSt.out _ (ba.block G HX3.out.lt) (ba.block (G + 1) HY3.out.lt))
 have Hx := hide hx
 refine hK.out _ _ HSa.out (fun hHeld => ?_)
 clear hK K ba0 hx
 refine wpAnyH_ready (rs := [5]) (by kernel_rfl) (by simp) (.cons rfl (fun K hK => ?_) .nil)
 go_simp
 go_wp2_with fail
 refine (twithin_any g f _ HGa.out HFa.out HFo.out.2 HFo.out.1 HN.out.2).mono ?_
 rintro e wb ⟨y, rfl, hy, bb0⟩
 have bb := ba.trans (bb0.mono ba.size)
 have HSb := hide (HSt.out _ (bb.block G HX3.out.lt) (bb.block (G + 1) HY3.out.lt))
 have Hy := hide hy
 have HBb := hide (HB3.out.trans (bb.mono HB3.out.size))
 refine hK.out _ _ HSb.out (fun hHeld => ?_)
 clear hK K bb0 hy bb ba bd
 refine wTk 6 ⟨some 7, .assign (.tmp 17), 4, "order.go:31", #[⟨2, .data⟩, ⟨5, .chain⟩, ⟨0, .phase⟩, ⟨1, .phase⟩, ⟨2, .phase⟩, ⟨3, .textOnly .lateStores⟩, ⟨4, .textOnly .lateStores⟩, ⟨5, .textOnly .lateStoresUnsure⟩], none⟩ rfl ?_
 refine wTk 7 ⟨some 8, .assign (.tmp 20), 4, "order.go:31", #[⟨5, .data⟩, ⟨6, .chain⟩, ⟨0, .phase⟩, ⟨1, .phase⟩, ⟨2, .phase⟩, ⟨3, .phase⟩, ⟨4, .phase⟩, ⟨5, .phase⟩, ⟨6, .phase⟩], none⟩ rfl ?_
 refine wpAnyH_done (by kernel_rfl) ?_ _
 clear hHeld
 have HE : Hid (∃ k er, Ending.returned (.tuple #[.int .i64 (ordK x y), .int .i64 0]) = .returned (.tuple #[.int .i64 k, .int .i64 er]) /\ OrD f g k er /\ Below w.heap.size w wb) := ⟨_, 0, rfl, .inr ⟨HFo.out.1, HFo.out.2, rfl, x, y, Hx.out, Hy.out, rfl⟩, HBb.out⟩
 clear Hx Hy
 cases x with
 | false =>
  cases y with
  | false =>
   go_wp2_with fail
   go_ret2
   exact HE.out
  | true =>
   go_wp2_with fail
   go_ret2
   exact HE.out
 | true =>
  cases y with
  | false =>
   go_wp2_with fail
   go_ret2
   exact HE.out
  | true =>
   go_wp2_with fail
   go_ret2
   exact HE.out
end
end Go.Proofs.YtalpnhfoaohhhaaGreat
