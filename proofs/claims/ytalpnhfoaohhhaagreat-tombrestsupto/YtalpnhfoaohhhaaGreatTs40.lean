/- TRs -/
import Derived.Test.YtalpnhfoaohhhaaGreatTs39
namespace Go.Proofs.YtalpnhfoaohhhaaGreat
open Go.RowKit
theorem LsD.holds {f g h : Fc} {er : Int} (H : LsD f g h er) (h1 : FormF f) (h2 : FormF g) : er = 0 ∧ LeOf f g h := by
 rcases H with ⟨q, -⟩ | ⟨-, -, q⟩
 ·exact absurd ⟨h1, h2⟩ q
 ·exact q
theorem OrD.holds {f g : Fc} {k er : Int} (H : OrD f g k er) (h1 : FormF f) (h2 : FormF g) {x y : Bool} (hx : x = true ↔ WiOf f g) (hy : y = true ↔ WiOf g f) : er = 0 ∧ k = ordK x y := by
 rcases H with ⟨q, -⟩ | ⟨-, -, rfl, x', y', e1, e2, rfl⟩
 ·exact absurd ⟨h1, h2⟩ q
 ·obtain rfl : x' = x := by rw [Bool.eq_iff_iff, e1, hx]
  obtain rfl : y' = y := by rw [Bool.eq_iff_iff, e2, hy]
  exact ⟨rfl, rfl⟩
theorem orand (a b : Prop) : (a ∨ b) ↔ (b ∨ (a ∧ ¬ b)) := by
 constructor
 ·rintro (h | h)
  ·by_cases q : b
   ·exact .inl q
   ·exact .inr ⟨h, q⟩
  ·exact .inl h
 ·rintro (h | ⟨h, -⟩)
  ·exact .inr h
  ·exact .inl h
theorem well_rest {a b h : Fc} {M : Nat → Int → Prop} {R : Rp → Prop} (W : WellF b a) (i : IsF h (fun x => x ∈ a.es ∧ x ∉ b.es) M R) : WellF b h :=
 ⟨W.1, i.form, fun e he ⟨y, hy, hd, hne⟩ => W.2.2 e he ⟨y, ((i.es y).1 hy).1, hd, hne⟩⟩
attribute [local go_sem ↓] ldFa_eq stFa_eq bldF_eq
attribute [local go_sem] cells_FaV FaC_size zero_FaZ run_bldF0
set_option maxRecDepth 100000 in
set_option maxHeartbeats 3200000 in
theorem tombRests_law (a b : Fc) (w : World) (hA : FcOk w a) (hB : FcOk w b) (ra : FcR a) (rb : FcR b) (hn : a.rn + b.rn ≤ 2199023255551) :
  Calls Tryz.prog 7 #[FaV (mkF a), FaV (mkF b)] w fun e w' => e = .returned (.bool true) ∧ Below w.heap.size w w' := by
 obtain ⟨wk, hwk, HX, HY, HBK⟩ := box2F w a b
 have HA := hide (hA.below HBK.out)
 have HB := hide (hB.below HBK.out)
 have HR : Hid (FcR a ∧ FcR b ∧ True ∧ a.rn + b.rn ≤ 2199023255551) := ⟨ra, rb, trivial, hn⟩
 clear hA hB ra rb hn
 obtain ⟨G, hG0⟩ : ∃ G, w.heap.size = G := ⟨_, rfl⟩
 rw [hG0] at HX HY
 go_enter Tryz.func7, Tryz.ntmps7
 go_wp2_with fail
 clear hwk hG0
 refine (awake_any _).mono ?_
 rintro e w1 ⟨rfl, b1⟩
 have HB1 := hide b1
 clear b1
 have lf := run_ldFa (HX.out.below HB1.out)
 have lg := run_ldFa (HY.out.below HB1.out)
 go_wp2_with fail
 clear lf lg
 refine (well_any a b _ (HA.out.below HB1.out) (HB.out.below HB1.out)).mono ?_
 rintro e w2 ⟨q, rfl, hq, bq⟩
 have HB2 := hide (HB1.out.trans (bq.mono HB1.out.size))
 clear bq
 cases q with
 | false =>
  have HE := hide (HBK.out.trans (HB2.out.mono HBK.out.size))
  clear hq
  go_wp2_with fail
  go_ret
  exact ⟨rfl, HE.out⟩
 | true =>
  have HW1 := hide (hq.1 rfl)
  clear hq
  have l0 := run_ldFa (HX.out.below HB2.out)
  have l1 := run_ldFa (HY.out.below HB2.out)
  go_wp2_with fail
  clear l0 l1
  refine (tJoin_any a b _ (HA.out.below HB2.out) (HB.out.below HB2.out) HR.out.1 HR.out.2.1 (by have := HR.out.2.2.2; omega)).mono ?_
  rintro e vf ⟨f, er, rfl, F0, R0, -, b0, J0⟩
  obtain ⟨rfl, N0, I0⟩ := join_isF (HA.out.below HB2.out) (HB.out.below HB2.out) F0 (HW1.out) J0
  obtain ⟨gf, hg0⟩ : ∃ g, vf.heap.size = g := ⟨_, rfl⟩
  obtain ⟨uf, hst, X0, B0, -⟩ := madeFa vf (mkF f) gf hg0
  replace hst : (stFa (.pointer (some ⟨gf, 0, none⟩)) (FaV (mkF f))).run Tryz.prog (vf.alloc (.cells (FaC (mkF fz0)) 29)) = .ok () uf := hst
  have b01 := b0.trans (B0.mono b0.size)
  have Cf := hide (HB2.out.trans (b01.mono HB2.out.size))
  have HXf := hide X0
  have HOf := hide (F0.below B0)
  have HIf := hide I0
  have HQf : Hid (FcR f ∧ f.rn ≤ a.rn + b.rn) := ⟨R0, N0⟩
  have Tf_f := hide (Below.refl uf.heap.size uf)
  clear F0 R0 N0 I0 X0 B0 b0 J0 b01
  have l0 := run_ldFa (HX.out.below Cf.out)
  have l1 := run_ldFa (HY.out.below Cf.out)
  go_wp2_with fail
  clear hst hg0
  clear l0 l1
  refine (tLess_any a b _ (HA.out.below Cf.out) (HB.out.below Cf.out) (by have := HR.out.2.2.2; omega)).mono ?_
  rintro e vh ⟨h, er, rfl, F0, R0, -, b0, J0⟩
  obtain ⟨rfl, L0⟩ := J0.holds (HW1.out.1) (HW1.out.2.1)
  have I0 := less_isF (HA.out.below Cf.out) F0 (HW1.out.1) L0
  obtain ⟨gh, hg0⟩ : ∃ g, vh.heap.size = g := ⟨_, rfl⟩
  obtain ⟨uh, hst, X0, B0, -⟩ := madeFa vh (mkF h) gh hg0
  replace hst : (stFa (.pointer (some ⟨gh, 0, none⟩)) (FaV (mkF h))).run Tryz.prog (vh.alloc (.cells (FaC (mkF fz0)) 29)) = .ok () uh := hst
  have b01 := b0.trans (B0.mono b0.size)
  have Ch := hide (Cf.out.trans (b01.mono Cf.out.size))
  have Tf_h := hide (Tf_f.out.trans (b01.mono Tf_f.out.size))
  have HXh := hide X0
  have HOh := hide (F0.below B0)
  have HIh := hide I0
  have HQh : Hid (FcR h ∧ h.rn ≤ a.rn) := ⟨R0, L0.2.2.2⟩
  have Th_h := hide (Below.refl uh.heap.size uh)
  clear F0 R0 X0 B0 b0 b01 I0 L0 J0
  have l0 := run_ldFa (HY.out.below Ch.out)
  have l1 := run_ldFa (HXh.out.below Th_h.out)
  go_wp2_with fail
  clear hst hg0
  clear l0 l1
  refine (tJoin_any b h _ (HB.out.below Ch.out) (HOh.out.below Th_h.out) HR.out.2.1 HQh.out.1 (by have := HR.out.2.2.2; have := HQh.out.2; omega)).mono ?_
  rintro e vg ⟨g, er, rfl, F0, R0, -, b0, J0⟩
  obtain ⟨rfl, N0, I0⟩ := join_isF (HB.out.below Ch.out) (HOh.out.below Th_h.out) F0 (well_rest HW1.out.symm HIh.out) J0
  obtain ⟨gg, hg0⟩ : ∃ g, vg.heap.size = g := ⟨_, rfl⟩
  obtain ⟨ug, hst, X0, B0, -⟩ := madeFa vg (mkF g) gg hg0
  replace hst : (stFa (.pointer (some ⟨gg, 0, none⟩)) (FaV (mkF g))).run Tryz.prog (vg.alloc (.cells (FaC (mkF fz0)) 29)) = .ok () ug := hst
  have b01 := b0.trans (B0.mono b0.size)
  have Cg := hide (Ch.out.trans (b01.mono Ch.out.size))
  have Tf_g := hide (Tf_h.out.trans (b01.mono Tf_h.out.size))
  have Th_g := hide (Th_h.out.trans (b01.mono Th_h.out.size))
  have HXg := hide X0
  have HOg := hide (F0.below B0)
  have HIg := hide I0
  have HQg : Hid (FcR g ∧ g.rn ≤ b.rn + h.rn) := ⟨R0, N0⟩
  have Tg_g := hide (Below.refl ug.heap.size ug)
  clear F0 R0 N0 I0 X0 B0 b0 J0 b01
  have l0 := run_ldFa (HX.out.below Cg.out)
  have l1 := run_ldFa (HXf.out.below Tf_g.out)
  go_wp2_with fail
  clear hst hg0
  clear l0 l1
  refine (tLess_any a f _ (HA.out.below Cg.out) (HOf.out.below Tf_g.out) (by have := HR.out.2.2.2; omega)).mono ?_
  rintro e vn ⟨n, er, rfl, F0, R0, -, b0, J0⟩
  obtain ⟨rfl, L0⟩ := J0.holds (HW1.out.1) (HIf.out.form)
  have I0 := less_isF (HA.out.below Cg.out) F0 (HW1.out.1) L0
  obtain ⟨gn, hg0⟩ : ∃ g, vn.heap.size = g := ⟨_, rfl⟩
  obtain ⟨un, hst, X0, B0, -⟩ := madeFa vn (mkF n) gn hg0
  replace hst : (stFa (.pointer (some ⟨gn, 0, none⟩)) (FaV (mkF n))).run Tryz.prog (vn.alloc (.cells (FaC (mkF fz0)) 29)) = .ok () un := hst
  have b01 := b0.trans (B0.mono b0.size)
  have Cn := hide (Cg.out.trans (b01.mono Cg.out.size))
  have Tf_n := hide (Tf_g.out.trans (b01.mono Tf_g.out.size))
  have Th_n := hide (Th_g.out.trans (b01.mono Th_g.out.size))
  have Tg_n := hide (Tg_g.out.trans (b01.mono Tg_g.out.size))
  have HXn := hide X0
  have HOn := hide (F0.below B0)
  have HIn := hide I0
  have HQn : Hid (FcR n ∧ n.rn ≤ a.rn) := ⟨R0, L0.2.2.2⟩
  have Tn_n := hide (Below.refl un.heap.size un)
  clear F0 R0 X0 B0 b0 b01 I0 L0 J0
  have l0 := run_ldFa (HXf.out.below Tf_n.out)
  have l1 := run_ldFa (HXg.out.below Tg_n.out)
  go_wp2_with fail
  clear hst hg0
  clear l0 l1
  refine (equal10_true f g _ (HOf.out.below Tf_n.out) (HOg.out.below Tg_n.out) (HIf.out.eq HIg.out (fun e => by rw [HIh.out.es]; exact orand _ _) (fun r hr n => by rw [HIh.out.p r hr]; exact orand _ _) (fun e => by rw [HIh.out.rs]; exact orand _ _))).mono ?_
  rintro e w3 ⟨rfl, bq⟩
  have C3 := hide (Cn.out.trans (bq.mono Cn.out.size))
  have Tf_3 := hide (Tf_n.out.trans (bq.mono Tf_n.out.size))
  have Th_3 := hide (Th_n.out.trans (bq.mono Th_n.out.size))
  have Tg_3 := hide (Tg_n.out.trans (bq.mono Tg_n.out.size))
  have Tn_3 := hide (Tn_n.out.trans (bq.mono Tn_n.out.size))
  clear bq
  have l0 := run_ldFa (HXn.out.below Tn_3.out)
  go_wp2_with fail
  clear l0
  refine (equal10_z n _ (HOn.out.below Tn_3.out)).mono ?_
  rintro e w4 ⟨q, rfl, hq, bq⟩
  have C4 := hide (C3.out.trans (bq.mono C3.out.size))
  have Tf_4 := hide (Tf_3.out.trans (bq.mono Tf_3.out.size))
  have Th_4 := hide (Th_3.out.trans (bq.mono Th_3.out.size))
  have Tg_4 := hide (Tg_3.out.trans (bq.mono Tg_3.out.size))
  have Tn_4 := hide (Tn_3.out.trans (bq.mono Tn_3.out.size))
  obtain rfl : q = true := hq.2 ((eqz_iff HIn.out).2 (wi_left HIf.out (fun x hx => .inl hx) (fun r hr n q => .inl q) (fun y hy => .inl hy)))
  clear hq
  clear bq
  have l0 := run_ldFa (HX.out.below C4.out)
  have l1 := run_ldFa (HY.out.below C4.out)
  go_wp2_with fail
  clear l0 l1
  refine (tWithin_any a b _ (HA.out.below C4.out) (HB.out.below C4.out) (by have := HR.out.2.2.2; omega)).mono ?_
  rintro e w5 ⟨x1, er, rfl, hw, bq⟩
  have C5 := hide (C4.out.trans (bq.mono C4.out.size))
  have Tf_5 := hide (Tf_4.out.trans (bq.mono Tf_4.out.size))
  have Th_5 := hide (Th_4.out.trans (bq.mono Th_4.out.size))
  have Tg_5 := hide (Tg_4.out.trans (bq.mono Tg_4.out.size))
  have Tn_5 := hide (Tn_4.out.trans (bq.mono Tn_4.out.size))
  obtain ⟨rfl, hw2⟩ := hw.holds (HW1.out.1) (HW1.out.2.1)
  have HV1 := hide hw2
  clear hw2
  clear hw
  clear bq
  have l0 := run_ldFa (HY.out.below C5.out)
  have l1 := run_ldFa (HX.out.below C5.out)
  go_wp2_with fail
  clear l0 l1
  refine (tWithin_any b a _ (HB.out.below C5.out) (HA.out.below C5.out) (by have := HR.out.2.2.2; omega)).mono ?_
  rintro e w6 ⟨x2, er, rfl, hw, bq⟩
  have C6 := hide (C5.out.trans (bq.mono C5.out.size))
  have Tf_6 := hide (Tf_5.out.trans (bq.mono Tf_5.out.size))
  have Th_6 := hide (Th_5.out.trans (bq.mono Th_5.out.size))
  have Tg_6 := hide (Tg_5.out.trans (bq.mono Tg_5.out.size))
  have Tn_6 := hide (Tn_5.out.trans (bq.mono Tn_5.out.size))
  obtain ⟨rfl, hw2⟩ := hw.holds (HW1.out.2.1) (HW1.out.1)
  have HV2 := hide hw2
  clear hw2
  clear hw
  clear bq
  have l0 := run_ldFa (HX.out.below C6.out)
  have l1 := run_ldFa (HY.out.below C6.out)
  go_wp2_with fail
  clear l0 l1
  refine (tOrder_any a b _ (HA.out.below C6.out) (HB.out.below C6.out) (by have := HR.out.2.2.2; omega) (by have := HR.out.2.2.2; omega)).mono ?_
  rintro e w7 ⟨k, er, rfl, hw, bq⟩
  have C7 := hide (C6.out.trans (bq.mono C6.out.size))
  have Tf_7 := hide (Tf_6.out.trans (bq.mono Tf_6.out.size))
  have Th_7 := hide (Th_6.out.trans (bq.mono Th_6.out.size))
  have Tg_7 := hide (Tg_6.out.trans (bq.mono Tg_6.out.size))
  have Tn_7 := hide (Tn_6.out.trans (bq.mono Tn_6.out.size))
  obtain ⟨rfl, rfl⟩ := hw.holds HW1.out.1 HW1.out.2.1 HV1.out HV2.out
  clear hw
  clear bq
  have l0 := run_ldFa (HXh.out.below Th_7.out)
  go_wp2_with fail
  clear l0
  refine (equal10_z h _ (HOh.out.below Th_7.out)).mono ?_
  rintro e w8 ⟨q, rfl, hq, bq⟩
  have C8 := hide (C7.out.trans (bq.mono C7.out.size))
  have Tf_8 := hide (Tf_7.out.trans (bq.mono Tf_7.out.size))
  have Th_8 := hide (Th_7.out.trans (bq.mono Th_7.out.size))
  have Tg_8 := hide (Tg_7.out.trans (bq.mono Tg_7.out.size))
  have Tn_8 := hide (Tn_7.out.trans (bq.mono Tn_7.out.size))
  obtain rfl : q = x1 := by rw [Bool.eq_iff_iff, hq, HV1.out]; exact eqz_iff HIh.out
  clear hq HV1 HV2
  clear bq
  have HE := hide (HBK.out.trans (C8.out.mono HBK.out.size))
  cases q with
  | false =>
   cases x2 with
   | false =>
    go_wp2_with fail
    go_ret
    exact ⟨rfl, HE.out⟩
   | true =>
    go_wp2_with fail
    go_ret
    exact ⟨rfl, HE.out⟩
  | true =>
   cases x2 with
   | false =>
    go_wp2_with fail
    go_ret
    exact ⟨rfl, HE.out⟩
   | true =>
    go_wp2_with fail
    go_ret
    exact ⟨rfl, HE.out⟩
theorem tombRests_u (a b : Fc) (w : World) (hA : FcU w a) (hB : FcU w b) :
  Calls Tryz.prog 7 #[FaV (mkF a), FaV (mkF b)] w fun e w' => e = .returned (.bool true) ∧ Below w.heap.size w w' :=
 tombRests_law a b w hA.ok hB.ok hA.row hB.row (by have := hA.rn; have := hB.rn; omega)
end Go.Proofs.YtalpnhfoaohhhaaGreat
