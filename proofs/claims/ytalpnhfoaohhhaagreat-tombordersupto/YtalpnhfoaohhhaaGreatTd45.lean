/- TOd -/
import Derived.Test.YtalpnhfoaohhhaaGreatTd44
import Derived.Test.YtalpnhfoaohhhaaGreatTd41
import Derived.Test.YtalpnhfoaohhhaaGreatTd38
set_option maxRecDepth 100000
set_option maxHeartbeats 3200000
namespace Go.Proofs.YtalpnhfoaohhhaaGreat
open Go.RowKit
theorem WtD.one {f g : Fc} {b b' : Bool} {er er' : Int} (h : WtD f g b er) (h' : WtD f g b' er') : b = b' /\ er = er' := by
 rcases h with ⟨h1, rfl, rfl⟩ | ⟨h1, h2, rfl, h3⟩ <;> rcases h' with ⟨g1, rfl, rfl⟩ | ⟨g1, g2, rfl, g3⟩
 ·exact ⟨rfl, rfl⟩
 ·exact absurd ⟨g1, g2⟩ h1
 ·exact absurd ⟨h1, h2⟩ g1
 ·exact ⟨by rw [Bool.eq_iff_iff, h3, g3], rfl⟩
theorem OrD.one {f g : Fc} {k k' er er' : Int} (h : OrD f g k er) (h' : OrD f g k' er') : k = k' /\ er = er' := by
 rcases h with ⟨h1, rfl, rfl⟩ | ⟨h1, h2, rfl, x, y, h3, h4, rfl⟩ <;> rcases h' with ⟨g1, rfl, rfl⟩ | ⟨g1, g2, rfl, x', y', g3, g4, rfl⟩
 ·exact ⟨rfl, rfl⟩
 ·exact absurd ⟨g1, g2⟩ h1
 ·exact absurd ⟨h1, h2⟩ g1
 ·obtain rfl : x = x' := by rw [Bool.eq_iff_iff, h3, g3]
  obtain rfl : y = y' := by rw [Bool.eq_iff_iff, h4, g4]
  exact ⟨rfl, rfl⟩
theorem EqF.refl (f : Fc) : EqF f f := ⟨rfl, rfl, rfl⟩
theorem LsD.one {w w0 w1 : World} {f g h h' : Fc} {er er' : Int} (hf : FcOk w0 f) (hh : FcOk w h) (hh' : FcOk w1 h') (H : LsD f g h er) (H' : LsD f g h' er') : er = er' /\ EqF h h' := by
 rcases H with ⟨h1, rfl, rfl⟩ | ⟨h1, h2, rfl, h3⟩ <;> rcases H' with ⟨g1, rfl, rfl⟩ | ⟨g1, g2, rfl, g3⟩
 ·exact ⟨rfl, EqF.refl _⟩
 ·exact absurd ⟨g1, g2⟩ h1
 ·exact absurd ⟨h1, h2⟩ g1
 ·exact ⟨rfl, (less_isF hf hh h1 h3).eq (less_isF hf hh' h1 g3) (fun _ => Iff.rfl) (fun _ _ _ => Iff.rfl) (fun _ => Iff.rfl)⟩
theorem EqF.copy {f g h : Fc} (h1 : EqF f g) (h2 : EqC g h) : EqF f h := ⟨h1.1.trans h2.1.symm, h1.2.1.trans h2.2.2.1.symm, h1.2.2.trans h2.2.2.2.1.symm⟩
theorem apart_fixed {f g : Fc} {k er : Int} (hf : SomeD f) (hg : BarD g) (h : OrD f g k er) : k = 3 /\ er = 0 := by
 rcases h with ⟨h1, -⟩ | ⟨-, -, rfl, x, y, hx, hy, rfl⟩
 ·exact absurd ⟨some_form hf, bar_form hg⟩ h1
 ·have x0 : x = false := by
   cases x with
   | false => rfl
   | true =>
    have h := (hx.1 rfl).1 aw1 (by rw [hf.1]; simp)
    rw [hg.1] at h; cases h
  have y0 : y = false := by
   cases y with
   | false => rfl
   | true =>
    obtain ⟨r, hr, -⟩ := hg.2.2.2.1
    have h := (hy.1 rfl).2.2 (rck r) (by rw [hr]; exact List.mem_cons_self)
    rw [hf.2.2.2.1] at h; cases h
  subst x0 y0
  exact ⟨rfl, rfl⟩
attribute [local go_sem ↓] ldFa_eq stFa_eq ldD_eq stD_eq
attribute [local go_sem] cells_FaV FaC_size zero_FaZ cells_RV RC_size zero_RC fold_RC
theorem tombOrders_law (a b : Fc) (w : World) (hA : FcU w a) (hB : FcU w b) :
  Calls Tryz.prog 4 #[FaV (mkF a), FaV (mkF b)] w fun e w' => e = .returned (.bool true) /\ Below w.heap.size w w' := by
 obtain ⟨wk, hwk, HX, HY, HBK⟩ := box2F w a b
 have HA := hide (hA.ok.below HBK.out)
 have HB := hide (hB.ok.below HBK.out)
 have HR : Hid (FcR a /\ FcR b /\ a.rn + b.rn <= 2199023255551) := ⟨hA.row, hB.row, by have := hA.rn; have := hB.rn; omega⟩
 clear hA hB
 obtain ⟨G, hG0⟩ : ∃ G, w.heap.size = G := ⟨_, rfl⟩
 rw [hG0] at HX HY
 have HB0 := hide (Below.refl wk.heap.size wk)
 go_enter Tryz.func4, Tryz.ntmps4
 go_wp2_with fail
 clear hwk hG0
 refine (someL_any _).mono ?_
 rintro e v1 ⟨f0, rfl, F1, R1, -, b1, D1⟩
 have HB1 := hide (HB0.out.trans (b1.mono HB0.out.size))
 have HF1 := hide F1
 have HD1 : Hid (SomeD f0 /\ FcR f0) := ⟨D1, R1⟩
 clear F1 R1 b1 D1
 go_wp2_with fail
 refine (barL_any _).mono ?_
 rintro e v2 ⟨f1, rfl, F2, R2, -, b2, D2⟩
 have HF2 := hide F2
 have HD2 : Hid (BarD f1 /\ FcR f1) := ⟨D2, R2⟩
 have HF3 := hide (HF1.out.below b2)
 have HB2 := hide (HB1.out.trans (b2.mono HB1.out.size))
 clear F2 R2 b2 D2
 go_wp2_with fail
 refine (tOrder_any f0 f1 _ HF3.out HF2.out (by rw [HD1.out.1.2.2.2.2]; decide) (by rw [HD2.out.1.2.2.2.2]; decide)).mono ?_
 rintro e v3 ⟨k, er, rfl, D3, b3⟩
 obtain ⟨rfl, rfl⟩ := apart_fixed HD1.out.1 HD2.out.1 D3
 have HB3 := hide (HB2.out.trans (b3.mono HB2.out.size))
 clear D3 b3
 have la := run_ldFa (HX.out.below HB3.out)
 have lb := run_ldFa (HY.out.below HB3.out)
 go_wp2_with fail
 clear la lb
 refine (refWithin10_any a b _ (HA.out.below HB3.out) (HB.out.below HB3.out) HR.out.1).mono ?_
 rintro e v4 ⟨x, ex, rfl, hx, b4⟩
 have Hx := hide hx
 have HB4 := hide (HB3.out.trans (b4.mono HB3.out.size))
 clear hx b4
 have la := run_ldFa (HX.out.below HB4.out)
 have lb := run_ldFa (HY.out.below HB4.out)
 go_wp2_with fail
 clear la lb
 refine (refOrder10_any a b _ (HA.out.below HB4.out) (HB.out.below HB4.out) HR.out.1 HR.out.2.1).mono ?_
 rintro e v5 ⟨y, ey, rfl, hy, b5⟩
 have Hy := hide hy
 have HB5 := hide (HB4.out.trans (b5.mono HB4.out.size))
 clear hy b5
 have la := run_ldFa (HX.out.below HB5.out)
 have lb := run_ldFa (HY.out.below HB5.out)
 go_wp2_with fail
 clear la lb
 refine (refLessF_any a b _ (HA.out.below HB5.out) (HB.out.below HB5.out) HR.out.1).mono ?_
 rintro e v6 ⟨h, eh, rfl, F6, R6, b6, D6⟩
 have Hh := hide D6
 have HGv : Hid (wk.heap.size <= v6.heap.size) := (HB5.out.trans (b6.mono HB5.out.size)).size
 obtain ⟨gh, hg0⟩ : ∃ g, v6.heap.size = g := ⟨_, rfl⟩
 obtain ⟨uh, hst, X0, B0, -⟩ := madeFa v6 (mkF h) gh hg0
 replace hst : (stFa (.pointer (some ⟨gh, 0, none⟩)) (FaV (mkF h))).run Tryz.prog (v6.alloc (.cells (FaC (mkF fz0)) 29)) = .ok () uh := hst
 have b01 := b6.trans (B0.mono b6.size)
 have HB6 := hide (HB5.out.trans (b01.mono HB5.out.size))
 have HXh := hide X0
 have HOh := hide (F6.below B0)
 have Th := hide (Below.refl uh.heap.size uh)
 clear X0 B0 b01
 clear F6 R6 D6 b6
 have HGH : Hid (wk.heap.size <= gh) := by rw [<- hg0]; exact HGv.out
 have lh := run_ldFa (HXh.out.below Th.out)
 go_wp2_with fail
 clear lh hst hg0
 refine (copyF_any h _ (HOh.out.below Th.out)).mono ?_
 rintro e v7 ⟨c, rfl, F7, R7, N7, b7, D7⟩
 have hlt := (HXh.out.below Th.out).lt
 have X7 := HXh.out.below (Th.out.trans (b7.mono Th.out.size))
 have stc := run_stFa (m' := mkF c) X7
 replace stc : (stFa (.pointer (some ⟨gh, 0, none⟩)) (FaV (mkF c))).run Tryz.prog v7 = .ok () (v7.setRow gh (FaC (mkF c))) := stc
 obtain ⟨v8, hv8⟩ : ∃ v8, v7.setRow gh (FaC (mkF c)) = v8 := ⟨_, rfl⟩
 rw [hv8] at stc
 have X8 := X7.setRow (m' := mkF c)
 rw [hv8] at X8
 have F8 : FcOk v8 c := by rw [<- hv8]; exact F7.off2 N7 (fun k hk => setRow_other _ _ _ _ (by omega))
 have B8 : Below wk.heap.size wk v8 := by rw [<- hv8]; exact below_setRow (HB6.out.trans (b7.mono HB6.out.size)) HGH.out
 have HX8 := hide X8
 have HF8 := hide F8
 have HB8 := hide B8
 have Hc := hide D7
 clear F7 R7 N7 b7 D7 hlt X7 X8 F8 B8 hv8
 have la := run_ldFa (HX.out.below HB8.out)
 have lb := run_ldFa (HY.out.below HB8.out)
 go_wp2_with fail
 clear la lb stc
 refine (tWithin_any a b _ (HA.out.below HB8.out) (HB.out.below HB8.out) (by have := HR.out.2.2; omega)).mono ?_
 rintro e v9 ⟨x', ex', rfl, hx, b9⟩
 obtain ⟨rfl, rfl⟩ := WtD.one Hx.out hx
 have HS8 := hide (Below.refl v8.heap.size v8)
 have HB9 := hide (HB8.out.trans (b9.mono HB8.out.size))
 have s_9 := hide (HS8.out.trans (b9.mono HS8.out.size))
 clear hx b9
 have la := run_ldFa (HX.out.below HB9.out)
 have lb := run_ldFa (HY.out.below HB9.out)
 go_wp2_with fail
 clear la lb
 refine (tOrder_any a b _ (HA.out.below HB9.out) (HB.out.below HB9.out) (by have := HR.out.2.2; omega) (by have := HR.out.2.2; omega)).mono ?_
 rintro e v10 ⟨y', ey', rfl, hy, b10⟩
 obtain ⟨rfl, rfl⟩ := OrD.one Hy.out hy
 have HB10 := hide (HB9.out.trans (b10.mono HB9.out.size))
 have s_10 := hide (s_9.out.trans (b10.mono s_9.out.size))
 clear hy b10
 have la := run_ldFa (HX.out.below HB10.out)
 have lb := run_ldFa (HY.out.below HB10.out)
 go_wp2_with fail
 clear la lb
 refine (tLess_any a b _ (HA.out.below HB10.out) (HB.out.below HB10.out) (by have := HR.out.2.2; omega)).mono ?_
 rintro e v11 ⟨l, el, rfl, F11, R11, N11, b11, D11⟩
 obtain ⟨rfl, e11⟩ := LsD.one HA.out F11 HOh.out D11 Hh.out
 have HE11 := hide (e11.copy Hc.out)
 clear e11
 obtain ⟨gl, hg0⟩ : ∃ g, v11.heap.size = g := ⟨_, rfl⟩
 obtain ⟨ul, hst, X0, B0, -⟩ := madeFa v11 (mkF l) gl hg0
 replace hst : (stFa (.pointer (some ⟨gl, 0, none⟩)) (FaV (mkF l))).run Tryz.prog (v11.alloc (.cells (FaC (mkF fz0)) 29)) = .ok () ul := hst
 have b01 := b11.trans (B0.mono b11.size)
 have HB11 := hide (HB10.out.trans (b01.mono HB10.out.size))
 have s_11 := hide (s_10.out.trans (b01.mono s_10.out.size))
 have HXl := hide X0
 have HOl := hide (F11.below B0)
 have Tl := hide (Below.refl ul.heap.size ul)
 clear X0 B0 b01
 clear F11 R11 N11 b11 D11
 have ll := run_ldFa (HXl.out.below Tl.out)
 have lc := run_ldFa (HX8.out.below s_11.out)
 go_wp2_with fail
 clear ll lc hst hg0
 refine (equal10_true l c _ (HOl.out.below Tl.out) (HF8.out.below s_11.out) HE11.out).mono ?_
 rintro e v12 ⟨rfl, b12⟩
 have HE := hide (HBK.out.trans ((HB11.out.trans (b12.mono HB11.out.size)).mono HBK.out.size))
 clear b12
 go_wp2_with fail
 go_ret
 exact ⟨rfl, HE.out⟩
end Go.Proofs.YtalpnhfoaohhhaaGreat
