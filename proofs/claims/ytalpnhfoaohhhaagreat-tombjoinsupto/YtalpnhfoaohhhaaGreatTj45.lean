/- TOd TJo -/
import Derived.Test.YtalpnhfoaohhhaaGreatTj44
import Derived.Test.YtalpnhfoaohhhaaGreatTj41
import Derived.Test.YtalpnhfoaohhhaaGreatTj38
set_option maxRecDepth 100000
set_option maxHeartbeats 3200000
namespace Go.Proofs.YtalpnhfoaohhhaaGreat
section
open Go.RowKit
theorem EqF.refl (f : Fc) : EqF f f := ⟨rfl, rfl, rfl⟩
theorem EqF.copy {f g h : Fc} (h1 : EqF f g) (h2 : EqC g h) : EqF f h := ⟨h1.1.trans h2.1.symm, h1.2.1.trans h2.2.2.1.symm, h1.2.2.trans h2.2.2.2.1.symm⟩
attribute [local go_sem ↓] ldFa_eq stFa_eq ldD_eq stD_eq
attribute [local go_sem] cells_FaV FaC_size zero_FaZ cells_RV RC_size zero_RC fold_RC
end
section
open Go.RowKit
def tj2 : K.En := ⟨0, 1, ⟨#[65]⟩, 6⟩
def fOne (g : Nat) (e : K.En) : Fc := ⟨some ⟨g, 0, none⟩, 1, 1, [e], pv0, none, 0, 0, []⟩
theorem fOne_ok (w : World) (e : K.En) (he : e.sku.size <= maxLen) : FcOk (w.alloc (.cells (K.EC e) 36)) (fOne w.heap.size e) :=
 ⟨K.lit_esrc w [e] (K.EC e) (by simp) 36 1 rfl (fun x hx => by rw [List.mem_singleton.1 hx]; exact he) (by decide), PSrc.zero _, RcS.empty _⟩
theorem run_bldFe (a : Option Addr) (n c : Nat) (w : World) : (bldF #[(0, .slice a n c)]).run Tryz.prog w = .ok (.agg #[.slice a n c, .slice none 0 0, .slice none 0 0, .slice none 0 0]) w := by kernel_rfl
theorem lit_clash {g g' : Nat} {d : Rn} {b : Bool} (h : ClOf (fOne g aw1) (fOne g' tj2) d b) : b = true /\ d = ⟨0, 1⟩ := by
 have f1 : FormF (fOne g aw1) := ⟨(by decide : K.okN [aw1] 1 = true), z_form, okR_zero _⟩
 have f2 : FormF (fOne g' tj2) := ⟨(by decide : K.okN [tj2] 1 = true), z_form, okR_zero _⟩
 have hc : ClE aw1 (fOne g' tj2) := ⟨tj2, List.mem_singleton.2 rfl, by decide, by decide⟩
 rcases h with ⟨h1, -⟩ | ⟨-, -, ⟨-, -, h3⟩ | ⟨rfl, i, h3, -, -, rfl⟩⟩
 ·exact absurd ⟨f1, f2⟩ h1
 ·exact absurd hc (h3 0 Nat.zero_lt_one)
 ·have h3' : i < 1 := h3
  obtain rfl : i = 0 := by omega
  exact ⟨rfl, rfl⟩
theorem JnOf.one {w w0 : World} {a b h h' : Fc} {er er' : Int} (hA : FcOk w a) (hB : FcOk w0 b) (J : JnOf 0 a b h er) (J' : JnOf 10 a b h' er') : er = er' /\ EqF h h' := by
 rcases J with ⟨h1, rfl, rfl⟩ | ⟨h1, h2, R, e, u, J⟩ <;> rcases J' with ⟨g1, rfl, rfl⟩ | ⟨g1, g2, R', e', u', J'⟩
 ·exact ⟨rfl, EqF.refl _⟩
 ·exact absurd ⟨g1, g2⟩ h1
 ·exact absurd ⟨h1, h2⟩ g1
 ·obtain ⟨rfl, rfl⟩ := K.UnionOf.unique u u'
  rcases J with ⟨q, rfl, rfl⟩ | ⟨q, rfl, e1, e2, e3, -⟩ <;> rcases J' with ⟨q', rfl, rfl⟩ | ⟨q', rfl, r1, r2, r3, -⟩
  ·refine ⟨?_, EqF.refl _⟩
   rcases u with ⟨g1, -⟩ | ⟨-, ⟨-, -, rfl⟩ | ⟨-, rfl, -⟩⟩
   ·exact absurd ⟨(chk_okN hA.es.1).2 h1.1, (chk_okN hB.es.1).2 h2.1⟩ g1
   ·rfl
   ·exact absurd rfl q
  ·exact absurd q' q
  ·exact absurd q q'
  ·exact ⟨rfl, e1.trans r1.symm, e2.unique r2 (fun _ _ _ => Iff.rfl), e3.one r3⟩
theorem run_eqDt (x : Rn) (w : World) : (Op.equalIn 10000 32 (.agg (RC x)) (.agg (RC x))).run Tryz.prog w = .ok true w := by
 have hS : Tryz.prog.underlying 32 = some (.struct (Tryz.prog.fieldsOf 32)) := by kernel_rfl
 have hp : Tryz.prog.stoodInHeld 32 = false := by kernel_rfl
 obtain ⟨a, b⟩ := x
 show (Op.equalIn 10000 32 (.agg #[.int .i64 a, .int .i64 b]) (.agg #[.int .i64 a, .int .i64 b])).run Tryz.prog w = .ok true w
 rw [show (10000 : Nat) = 9999 + 1 from rfl, run_equalIn_struct w 9999 32 _ _ hS hp]
 simp only [Program.fieldsOf, Tryz.underlying32]
 have h3 : ∀ (p q : Int) w, (Op.equalIn 9999 3 (.int .i64 p) (.int .i64 q)).run Tryz.prog w = .ok (p == q) w := fun p q w => run_equalIn_int w 9998 3 .i64 .i64 p q Tryz.underlying3
 obtain ⟨D, hD⟩ : ∃ D, 9999 = D := ⟨9999, rfl⟩
 rw [hD] at h3 ⊢
 go_simp
attribute [local go_sem ↓] ldFa_eq stFa_eq ldD_eq stD_eq bldF_eq run_bldFe bsEc_eq run_bsEc run_eqDt
attribute [local go_sem] cells_FaV FaC_size zero_FaZ cells_RV RC_size zero_RC fold_RC
theorem tombJoins_law (a b : Fc) (w : World) (hA : FcU w a) (hB : FcU w b) :
  Calls Tryz.prog 3 #[FaV (mkF a), FaV (mkF b)] w fun e w' => e = .returned (.bool true) /\ Below w.heap.size w w' := by
 obtain ⟨wk, hwk, HX, HY, HBK⟩ := box2F w a b
 have HA := hide (hA.ok.below HBK.out)
 have HB := hide (hB.ok.below HBK.out)
 have HR : Hid (FcR a /\ FcR b /\ a.rn + b.rn <= 2199023255551) := ⟨hA.row, hB.row, by have := hA.rn; have := hB.rn; omega⟩
 clear hA hB
 obtain ⟨G, hG0⟩ : ∃ G, w.heap.size = G := ⟨_, rfl⟩
 rw [hG0] at HX HY
 have HB0 := hide (Below.refl wk.heap.size wk)
 go_enter Tryz.func3, Tryz.ntmps3
 go_wp2_with fail
 clear hwk hG0
 refine (awake_any _).mono ?_
 rintro e v1 ⟨rfl, b1⟩
 have HB1 := hide (HB0.out.trans (b1.mono HB0.out.size))
 clear b1
 go_wp2_with fail
 refine (entryL_any 0 1 5 ⟨#[65]⟩ _).mono ?_
 rintro e v2 ⟨rfl, b2⟩
 have HB2 := hide (HB1.out.trans (b2.mono HB1.out.size))
 have B2 := below_new v2 (.cells (K.EC aw1) 36)
 have F2 := fOne_ok v2 aw1 (by decide)
 obtain ⟨g2, hg2⟩ : ∃ g, v2.heap.size = g := ⟨_, rfl⟩
 obtain ⟨u2, hu2⟩ : ∃ u, v2.alloc (.cells (K.EC aw1) 36) = u := ⟨_, rfl⟩
 rw [hu2] at B2 F2
 rw [hg2] at F2
 replace hu2 : v2.alloc (.cells (K.EC ⟨0, 1, ⟨#[65]⟩, 5⟩) 36) = u2 := hu2
 have HB3 := hide (HB2.out.trans (B2.mono HB2.out.size))
 have HF2 := hide F2
 clear b2 B2 F2
 go_wp2_with fail
 clear hu2 hg2
 refine (entryL_any 0 1 6 ⟨#[65]⟩ _).mono ?_
 rintro e v3 ⟨rfl, b3⟩
 have HF3 := hide (HF2.out.below b3)
 have HB4 := hide (HB3.out.trans (b3.mono HB3.out.size))
 have B2 := below_new v3 (.cells (K.EC tj2) 36)
 have F2 := fOne_ok v3 tj2 (by decide)
 obtain ⟨g3, hg3⟩ : ∃ g, v3.heap.size = g := ⟨_, rfl⟩
 obtain ⟨u3, hu3⟩ : ∃ u, v3.alloc (.cells (K.EC tj2) 36) = u := ⟨_, rfl⟩
 have HF4 := hide (HF3.out.below B2)
 rw [hu3] at B2 F2 HF4
 rw [hg3] at F2
 replace hu3 : v3.alloc (.cells (K.EC ⟨0, 1, ⟨#[65]⟩, 6⟩) 36) = u3 := hu3
 have HB5 := hide (HB4.out.trans (B2.mono HB4.out.size))
 have HF5 := hide F2
 clear b3 B2 F2
 go_wp2_with fail
 clear hu3 hg3
 refine (tClash_any (fOne g2 aw1) (fOne g3 tj2) _ HF4.out HF5.out).mono ?_
 rintro e v4 ⟨d0, ok0, rfl, C4, b4⟩
 obtain ⟨rfl, rfl⟩ := lit_clash C4
 obtain ⟨g5, hg5⟩ : ∃ g, v4.heap.size = g := ⟨_, rfl⟩
 obtain ⟨v5, hst, X5, B5, -⟩ := madeD v4 ⟨0, 1⟩ g5 hg5
 have HX5 := hide X5
 have b45 := b4.trans (B5.mono b4.size)
 have HG5 : Hid (wk.heap.size <= g5) := by rw [<- hg5]; exact (HB5.out.trans (b4.mono HB5.out.size)).size
 have HB6 := hide (HB5.out.trans (b45.mono HB5.out.size))
 have T5 := hide (Below.refl v5.heap.size v5)
 have c0 := HX5.out.at.c0
 have c1 := HX5.out.at.c1
 replace c0 : v5.cell? ⟨g5, 0, none⟩ = some (.int .i64 0) := c0
 replace c1 : v5.cell? ⟨g5, 1, none⟩ = some (.int .i64 1) := c1
 clear C4 b4 X5 B5 b45
 have la := run_ldFa (HX.out.below HB6.out)
 have lb := run_ldFa (HY.out.below HB6.out)
 go_wp2_with fail
 clear la lb hst hg5 c0 c1
 refine (refJoinF_any a b _ (HA.out.below HB6.out) (HB.out.below HB6.out) HR.out.1 HR.out.2.1 HR.out.2.2).mono ?_
 rintro e v6 ⟨h, eh, rfl, F6, R6, b6, D6⟩
 have Hh := hide D6
 have HGv : Hid (wk.heap.size <= v6.heap.size) := (HB6.out.trans (b6.mono HB6.out.size)).size
 obtain ⟨gh, hg0⟩ : ∃ g, v6.heap.size = g := ⟨_, rfl⟩
 have HG5n : Hid (g5 ≠ gh) := by
  have h1 := HX5.out.lt
  have h2 := b6.size
  intro e
  omega
 obtain ⟨uh, hst, X0, B0, -⟩ := madeFa v6 (mkF h) gh hg0
 replace hst : (stFa (.pointer (some ⟨gh, 0, none⟩)) (FaV (mkF h))).run Tryz.prog (v6.alloc (.cells (FaC (mkF fz0)) 29)) = .ok () uh := hst
 have b01 := b6.trans (B0.mono b6.size)
 have HB7 := hide (HB6.out.trans (b01.mono HB6.out.size))
 have q5_7 := hide (T5.out.trans (b01.mono T5.out.size))
 have HXh := hide X0
 have HOh := hide (F6.below B0)
 have Th := hide (Below.refl uh.heap.size uh)
 clear X0 B0 b01
 clear F6 R6 D6 b6
 have HGH : Hid (wk.heap.size <= gh) := by rw [<- hg0]; exact HGv.out
 have HGH : Hid (wk.heap.size <= gh) := by rw [<- hg0]; exact HGv.out
 have lh := run_ldFa (HXh.out.below Th.out)
 go_wp2_with fail
 clear lh hst hg0
 refine (copyF_any h _ (HOh.out.below Th.out)).mono ?_
 rintro e v7 ⟨c, rfl, F7, R7, N7, b7, D7⟩
 have hlt := (HXh.out.below Th.out).lt
 have X7 := HXh.out.below (Th.out.trans (b7.mono Th.out.size))
 have stc := run_stFa (m' := mkF c) X7
 replace stc : (stFa (.pointer (some ⟨gh, 0, none⟩)) (FaV (mkF c))).run Tryz.prog v7 = .ok () (v7.setRow gh (FaC (mkF c))) := stc
 obtain ⟨v8, hv8⟩ : ∃ v8, v7.setRow gh (FaC (mkF c)) = v8 := ⟨_, rfl⟩
 rw [hv8] at stc
 have X8 := X7.setRow (m' := mkF c)
 rw [hv8] at X8
 have F8 : FcOk v8 c := by rw [<- hv8]; exact F7.off2 N7 (fun k hk => setRow_other _ _ _ _ (by omega))
 have Y8 : Box v8 g5 32 ⟨0, 1⟩ := by
  have h7 := HX5.out.below (q5_7.out.trans (b7.mono q5_7.out.size))
  have hne : g5 ≠ gh := fun e => HG5n.out e
  rw [<- hv8]
  exact (setRow_other _ _ _ _ hne).trans h7
 have B8 : Below wk.heap.size wk v8 := by rw [<- hv8]; exact below_setRow (HB7.out.trans (b7.mono HB7.out.size)) HGH.out
 have HX8 := hide X8
 have HF8 := hide F8
 have HB8 := hide B8
 have HY8 := hide Y8
 have Hc := hide D7
 clear F7 R7 N7 b7 D7 hlt X7 X8 F8 B8 Y8 hv8
 have HS8 := hide (Below.refl v8.heap.size v8)
 have la := run_ldFa (HX.out.below HB8.out)
 have lb := run_ldFa (HY.out.below HB8.out)
 go_wp2_with fail
 clear la lb stc
 refine (refClash_any a b _ (HA.out.below HB8.out) (HB.out.below HB8.out)).mono ?_
 rintro e v9 ⟨d, ok, rfl, C9, b9⟩
 have HC9 := hide C9
 obtain ⟨g9, hg9⟩ : ∃ g, v9.heap.size = g := ⟨_, rfl⟩
 obtain ⟨u9, hst, X9, B9, -⟩ := madeD v9 d g9 hg9
 have HX9 := hide X9
 have HG9n : Hid (g5 ≠ g9) := by
  have h1 := HY8.out.lt
  have h2 := b9.size
  intro e
  omega
 have b99 := b9.trans (B9.mono b9.size)
 have HB9 := hide (HB8.out.trans (b99.mono HB8.out.size))
 have s_9 := hide (HS8.out.trans (b99.mono HS8.out.size))
 have TD := hide (Below.refl u9.heap.size u9)
 clear C9 b9 X9 B9 b99
 have la := run_ldFa (HX.out.below HB9.out)
 have lb := run_ldFa (HY.out.below HB9.out)
 go_wp2_with fail
 clear la lb hst hg9
 refine (tJoin_any a b _ (HA.out.below HB9.out) (HB.out.below HB9.out) HR.out.1 HR.out.2.1 HR.out.2.2).mono ?_
 rintro e v10 ⟨l, el, rfl, F10, R10, N10, b10, J10⟩
 obtain ⟨rfl, e10⟩ := JnOf.one HA.out HB.out J10 Hh.out
 have HE10 := hide (e10.copy Hc.out)
 clear e10
 obtain ⟨gl, hg0⟩ : ∃ g, v10.heap.size = g := ⟨_, rfl⟩
 obtain ⟨ul, hst, X0, B0, -⟩ := madeFa v10 (mkF l) gl hg0
 replace hst : (stFa (.pointer (some ⟨gl, 0, none⟩)) (FaV (mkF l))).run Tryz.prog (v10.alloc (.cells (FaC (mkF fz0)) 29)) = .ok () ul := hst
 have b01 := b10.trans (B0.mono b10.size)
 have HB10 := hide (HB9.out.trans (b01.mono HB9.out.size))
 have s_10 := hide (s_9.out.trans (b01.mono s_9.out.size))
 have d_10 := hide (TD.out.trans (b01.mono TD.out.size))
 have HXl := hide X0
 have HOl := hide (F10.below B0)
 have Tl := hide (Below.refl ul.heap.size ul)
 clear X0 B0 b01
 clear F10 R10 N10 b10 J10
 have ll := run_ldFa (HXl.out.below Tl.out)
 have lc := run_ldFa (HX8.out.below s_10.out)
 go_wp2_with fail
 clear ll lc hst hg0
 refine (equal10_true l c _ (HOl.out.below Tl.out) (HF8.out.below s_10.out) HE10.out).mono ?_
 rintro e v12 ⟨rfl, b12⟩
 have HB11 := hide (HB10.out.trans (b12.mono HB10.out.size))
 have s_11 := hide (s_10.out.trans (b12.mono s_10.out.size))
 have d_11 := hide (d_10.out.trans (b12.mono d_10.out.size))
 have l_11 := hide (Tl.out.trans (b12.mono Tl.out.size))
 clear b12
 have la := run_ldFa (HX.out.below HB11.out)
 have lb := run_ldFa (HY.out.below HB11.out)
 go_wp2_with fail
 clear la lb
 refine (tClash_any a b _ (HA.out.below HB11.out) (HB.out.below HB11.out)).mono ?_
 rintro e v13 ⟨d', ok', rfl, C13, b13⟩
 obtain ⟨rfl, rfl⟩ := ClOf.unique HC9.out C13
 have y13 := HY8.out.below (s_11.out.trans (b13.mono s_11.out.size))
 have d13 := HX9.out.below (d_11.out.trans (b13.mono d_11.out.size))
 have std := run_stD (r' := d) y13
 have B13 : Below wk.heap.size wk (v13.setRow g5 (RC d)) := below_setRow (HB11.out.trans (b13.mono HB11.out.size)) HG5.out
 have y14 : Box (v13.setRow g5 (RC d)) g5 32 d := setRow_heap _ _ _ _ _ _ y13
 have d14 : Box (v13.setRow g5 (RC d)) g9 32 d := (setRow_other _ _ _ _ (fun e => HG9n.out e.symm)).trans d13
 obtain ⟨v14, hv14⟩ : ∃ v, v13.setRow g5 (RC d) = v := ⟨_, rfl⟩
 rw [hv14] at std B13 y14 d14
 have ly := run_ldD y14.at
 have ld := run_ldD d14.at
 have HE := hide (HBK.out.trans (B13.mono HBK.out.size))
 clear C13 b13 y13 d13 y14 d14 B13 hv14
 go_wp2_with fail
 go_ret
 exact ⟨rfl, HE.out⟩
end
end Go.Proofs.YtalpnhfoaohhhaaGreat
