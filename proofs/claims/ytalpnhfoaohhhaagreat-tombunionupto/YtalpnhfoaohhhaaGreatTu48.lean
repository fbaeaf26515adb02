/- TUn -/
import Derived.Test.YtalpnhfoaohhhaaGreatTu43
import Derived.Test.YtalpnhfoaohhhaaGreatTu47
namespace Go.Proofs.YtalpnhfoaohhhaaGreat
open Go.RowKit
theorem wellF_self {w : World} {f : Fc} (hF : FcOk w f) (h : FormF f) : WellF f f :=
 ⟨h, h, fun e he ⟨y, hy, hd, hne⟩ => absurd (dot_one ((chk_okN hF.es.1).2 h.1) hy he (sameDot_dotOf hd)) (by first | exact hne | exact fun q => hne q.symm)⟩
theorem wi_left {h f : Fc} {E : K.En → Prop} {M : Nat → Int → Prop} {R : Rp → Prop} (i : IsF h E M R) (h1 : ∀ x ∈ f.es, E x) (h2 : ∀ r, r < 16 → ∀ n, mem (runsAt f.p.P r) n → M r n) (h3 : ∀ y ∈ plR f.rs, R y) : WiOf f h :=
 ⟨fun x hx => (i.es x).2 (h1 x hx), fun r hr n q => (i.p r hr n).2 (h2 r hr n q), fun y hy => (i.rs y).2 (h3 y hy)⟩
theorem wi_join {a b c h : Fc} (i : IsF h (fun x => x ∈ a.es ∨ x ∈ b.es) (fun r n => mem (runsAt a.p.P r) n ∨ mem (runsAt b.p.P r) n) (fun y => y ∈ plR a.rs ∨ y ∈ plR b.rs)) : WiOf h c ↔ WiOf a c ∧ WiOf b c := by
 constructor
 ·rintro ⟨h1, h2, h3⟩
  exact ⟨⟨fun x hx => h1 x ((i.es x).2 (.inl hx)), fun r hr n q => h2 r hr n ((i.p r hr n).2 (.inl q)), fun y hy => h3 y ((i.rs y).2 (.inl hy))⟩, fun x hx => h1 x ((i.es x).2 (.inr hx)), fun r hr n q => h2 r hr n ((i.p r hr n).2 (.inr q)), fun y hy => h3 y ((i.rs y).2 (.inr hy))⟩
 ·rintro ⟨⟨h1, h2, h3⟩, g1, g2, g3⟩
  exact ⟨fun x hx => ((i.es x).1 hx).elim (h1 x) (g1 x), fun r hr n q => ((i.p r hr n).1 q).elim (h2 r hr n) (g2 r hr n), fun y hy => ((i.rs y).1 hy).elim (h3 y) (g3 y)⟩
theorem ora (a b : Prop) : ((a ∨ b) ∨ a) ↔ (a ∨ b) := ⟨fun h => h.elim id .inl, .inl⟩
theorem WtD.holds {f g : Fc} {b : Bool} {er : Int} (h : WtD f g b er) (h1 : FormF f) (h2 : FormF g) : er = 0 ∧ (b = true ↔ WiOf f g) := by
 rcases h with ⟨q, -⟩ | ⟨-, -, q⟩
 ·exact absurd ⟨h1, h2⟩ q
 ·exact q
attribute [local go_sem ↓] ldFa_eq stFa_eq
attribute [local go_sem] cells_FaV FaC_size zero_FaZ
set_option maxRecDepth 100000 in
set_option maxHeartbeats 3200000 in
theorem tombUnion_law (a b c : Fc) (w : World) (hA : FcOk w a) (hB : FcOk w b) (hC : FcOk w c) (ra : FcR a) (rb : FcR b) (rc : FcR c) (hn : a.rn + b.rn + a.rn ≤ 2199023255551) :
  Calls Tryz.prog 5 #[FaV (mkF a), FaV (mkF b), FaV (mkF c)] w fun e w' => e = .returned (.bool true) ∧ Below w.heap.size w w' := by
 obtain ⟨wk, hwk, HX, HY, HZ, HBK⟩ := box3F w a b c
 have HA := hide (hA.below HBK.out)
 have HB := hide (hB.below HBK.out)
 have HC := hide (hC.below HBK.out)
 have HR : Hid (FcR a ∧ FcR b ∧ FcR c ∧ a.rn + b.rn + a.rn ≤ 2199023255551) := ⟨ra, rb, rc, hn⟩
 clear hA hB hC ra rb rc hn
 obtain ⟨G, hG0⟩ : ∃ G, w.heap.size = G := ⟨_, rfl⟩
 rw [hG0] at HX HY HZ
 go_enter Tryz.func5, Tryz.ntmps5
 go_wp2_with fail
 clear hwk hG0
 refine (awake_any _).mono ?_
 rintro e w1 ⟨rfl, b1⟩
 have HB1 := hide b1
 clear b1
 have lf := run_ldFa (HX.out.below HB1.out)
 have lg := run_ldFa (HY.out.below HB1.out)
 go_wp2_with fail
 clear lf lg
 refine (well_any a b _ (HA.out.below HB1.out) (HB.out.below HB1.out)).mono ?_
 rintro e w2 ⟨q, rfl, hq, bq⟩
 have HB2 := hide (HB1.out.trans (bq.mono HB1.out.size))
 clear bq
 cases q with
 | false =>
  have HE := hide (HBK.out.trans (HB2.out.mono HBK.out.size))
  clear hq
  go_wp2_with fail
  go_ret
  exact ⟨rfl, HE.out⟩
 | true =>
  have HW1 := hide (hq.1 rfl)
  clear hq
  have l0 := run_ldFa (HX.out.below HB2.out)
  have l1 := run_ldFa (HY.out.below HB2.out)
  go_wp2_with fail
  clear l0 l1
  refine (tJoin_any a b _ (HA.out.below HB2.out) (HB.out.below HB2.out) HR.out.1 HR.out.2.1 (by have := HR.out.2.2.2; omega)).mono ?_
  rintro e vf ⟨f, er, rfl, F0, R0, -, b0, J0⟩
  obtain ⟨rfl, N0, I0⟩ := join_isF (HA.out.below HB2.out) (HB.out.below HB2.out) F0 (HW1.out) J0
  obtain ⟨gf, hg0⟩ : ∃ g, vf.heap.size = g := ⟨_, rfl⟩
  obtain ⟨uf, hst, X0, B0, -⟩ := madeFa vf (mkF f) gf hg0
  replace hst : (stFa (.pointer (some ⟨gf, 0, none⟩)) (FaV (mkF f))).run Tryz.prog (vf.alloc (.cells (FaC (mkF fz0)) 29)) = .ok () uf := hst
  have b01 := b0.trans (B0.mono b0.size)
  have Cf := hide (HB2.out.trans (b01.mono HB2.out.size))
  have HXf := hide X0
  have HOf := hide (F0.below B0)
  have HIf := hide I0
  have HQf : Hid (FcR f ∧ f.rn ≤ a.rn + b.rn) := ⟨R0, N0⟩
  have Tf_f := hide (Below.refl uf.heap.size uf)
  clear F0 R0 N0 I0 X0 B0 b0 J0 b01
  have l0 := run_ldFa (HY.out.below Cf.out)
  have l1 := run_ldFa (HX.out.below Cf.out)
  go_wp2_with fail
  clear hst hg0
  clear l0 l1
  refine (tJoin_any b a _ (HB.out.below Cf.out) (HA.out.below Cf.out) HR.out.2.1 HR.out.1 (by have := HR.out.2.2.2; omega)).mono ?_
  rintro e vg ⟨g, er, rfl, F0, R0, -, b0, J0⟩
  obtain ⟨rfl, N0, I0⟩ := join_isF (HB.out.below Cf.out) (HA.out.below Cf.out) F0 (HW1.out.symm) J0
  obtain ⟨gg, hg0⟩ : ∃ g, vg.heap.size = g := ⟨_, rfl⟩
  obtain ⟨ug, hst, X0, B0, -⟩ := madeFa vg (mkF g) gg hg0
  replace hst : (stFa (.pointer (some ⟨gg, 0, none⟩)) (FaV (mkF g))).run Tryz.prog (vg.alloc (.cells (FaC (mkF fz0)) 29)) = .ok () ug := hst
  have b01 := b0.trans (B0.mono b0.size)
  have Cg := hide (Cf.out.trans (b01.mono Cf.out.size))
  have Tf_g := hide (Tf_f.out.trans (b01.mono Tf_f.out.size))
  have HXg := hide X0
  have HOg := hide (F0.below B0)
  have HIg := hide I0
  have HQg : Hid (FcR g ∧ g.rn ≤ b.rn + a.rn) := ⟨R0, N0⟩
  have Tg_g := hide (Below.refl ug.heap.size ug)
  clear F0 R0 N0 I0 X0 B0 b0 J0 b01
  have l0 := run_ldFa (HXf.out.below Tf_g.out)
  have l1 := run_ldFa (HXg.out.below Tg_g.out)
  go_wp2_with fail
  clear hst hg0
  clear l0 l1
  refine (equal10_true f g _ (HOf.out.below Tf_g.out) (HOg.out.below Tg_g.out) (HIf.out.eq HIg.out (fun e => or_comm) (fun r hr n => or_comm) (fun e => or_comm))).mono ?_
  rintro e w3 ⟨rfl, bq⟩
  have C3 := hide (Cg.out.trans (bq.mono Cg.out.size))
  have Tf_3 := hide (Tf_g.out.trans (bq.mono Tf_g.out.size))
  have Tg_3 := hide (Tg_g.out.trans (bq.mono Tg_g.out.size))
  clear bq
  have l0 := run_ldFa (HXf.out.below Tf_3.out)
  go_wp2_with fail
  clear l0
  refine (tCheck_any f _ (HOf.out.below Tf_3.out)).mono ?_
  rintro e w4 ⟨x, rfl, hx, bq⟩
  have C4 := hide (C3.out.trans (bq.mono C3.out.size))
  have Tf_4 := hide (Tf_3.out.trans (bq.mono Tf_3.out.size))
  have Tg_4 := hide (Tg_3.out.trans (bq.mono Tg_3.out.size))
  obtain rfl : x = 0 := by
   rcases hx with ⟨rfl, -⟩ | ⟨-, q⟩
   ·rfl
   ·exact absurd HIf.out.form q
  clear hx
  clear bq
  have l0 := run_ldFa (HX.out.below C4.out)
  have l1 := run_ldFa (HXf.out.below Tf_4.out)
  go_wp2_with fail
  clear l0 l1
  refine (tWithin_any a f _ (HA.out.below C4.out) (HOf.out.below Tf_4.out) (by have := HR.out.2.2.2; omega)).mono ?_
  rintro e w5 ⟨x1, er, rfl, hw, bq⟩
  have C5 := hide (C4.out.trans (bq.mono C4.out.size))
  have Tf_5 := hide (Tf_4.out.trans (bq.mono Tf_4.out.size))
  have Tg_5 := hide (Tg_4.out.trans (bq.mono Tg_4.out.size))
  obtain ⟨rfl, hw2⟩ := hw.holds (HW1.out.1) (HIf.out.form)
  obtain rfl : x1 = true := hw2.2 (wi_left HIf.out (fun x hx => .inl hx) (fun r hr n q => .inl q) (fun y hy => .inl hy))
  clear hw2
  clear hw
  clear bq
  have l0 := run_ldFa (HY.out.below C5.out)
  have l1 := run_ldFa (HXf.out.below Tf_5.out)
  go_wp2_with fail
  clear l0 l1
  refine (tWithin_any b f _ (HB.out.below C5.out) (HOf.out.below Tf_5.out) (by have := HR.out.2.2.2; omega)).mono ?_
  rintro e w6 ⟨x2, er, rfl, hw, bq⟩
  have C6 := hide (C5.out.trans (bq.mono C5.out.size))
  have Tf_6 := hide (Tf_5.out.trans (bq.mono Tf_5.out.size))
  have Tg_6 := hide (Tg_5.out.trans (bq.mono Tg_5.out.size))
  obtain ⟨rfl, hw2⟩ := hw.holds (HW1.out.2.1) (HIf.out.form)
  obtain rfl : x2 = true := hw2.2 (wi_left HIf.out (fun x hx => .inr hx) (fun r hr n q => .inr q) (fun y hy => .inr hy))
  clear hw2
  clear hw
  clear bq
  have l0 := run_ldFa (HXf.out.below Tf_6.out)
  have l1 := run_ldFa (HX.out.below C6.out)
  go_wp2_with fail
  clear l0 l1
  refine (tJoin_any f a _ (HOf.out.below Tf_6.out) (HA.out.below C6.out) HQf.out.1 HR.out.1 (by have := HR.out.2.2.2; have := HQf.out.2; omega)).mono ?_
  rintro e vk ⟨k, er, rfl, F0, R0, -, b0, J0⟩
  obtain ⟨rfl, N0, I0⟩ := join_isF (HOf.out.below Tf_6.out) (HA.out.below C6.out) F0 (well_joinL HIf.out (wellF_self HA.out HW1.out.1) HW1.out.symm) J0
  obtain ⟨gk, hg0⟩ : ∃ g, vk.heap.size = g := ⟨_, rfl⟩
  obtain ⟨uk, hst, X0, B0, -⟩ := madeFa vk (mkF k) gk hg0
  replace hst : (stFa (.pointer (some ⟨gk, 0, none⟩)) (FaV (mkF k))).run Tryz.prog (vk.alloc (.cells (FaC (mkF fz0)) 29)) = .ok () uk := hst
  have b01 := b0.trans (B0.mono b0.size)
  have Ck := hide (C6.out.trans (b01.mono C6.out.size))
  have Tf_k := hide (Tf_6.out.trans (b01.mono Tf_6.out.size))
  have Tg_k := hide (Tg_6.out.trans (b01.mono Tg_6.out.size))
  have HXk := hide X0
  have HOk := hide (F0.below B0)
  have HIk := hide I0
  have HQk : Hid (FcR k ∧ k.rn ≤ f.rn + a.rn) := ⟨R0, N0⟩
  have Tk_k := hide (Below.refl uk.heap.size uk)
  clear F0 R0 N0 I0 X0 B0 b0 J0 b01
  have l0 := run_ldFa (HXk.out.below Tk_k.out)
  have l1 := run_ldFa (HXf.out.below Tf_k.out)
  go_wp2_with fail
  clear hst hg0
  clear l0 l1
  refine (equal10_true k f _ (HOk.out.below Tk_k.out) (HOf.out.below Tf_k.out) (HIk.out.eq HIf.out (fun e => by rw [HIf.out.es]; exact ora _ _) (fun r hr n => by rw [HIf.out.p r hr]; exact ora _ _) (fun e => by rw [HIf.out.rs]; exact ora _ _))).mono ?_
  rintro e w7 ⟨rfl, bq⟩
  have C7 := hide (Ck.out.trans (bq.mono Ck.out.size))
  have Tf_7 := hide (Tf_k.out.trans (bq.mono Tf_k.out.size))
  have Tg_7 := hide (Tg_k.out.trans (bq.mono Tg_k.out.size))
  have Tk_7 := hide (Tk_k.out.trans (bq.mono Tk_k.out.size))
  clear bq
  have l0 := run_ldFa (HZ.out.below C7.out)
  go_wp2_with fail
  clear l0
  refine (refCheckF_any c _ (HC.out.below C7.out)).mono ?_
  rintro e w8 ⟨x, rfl, hx, bq⟩
  have C8 := hide (C7.out.trans (bq.mono C7.out.size))
  have Tf_8 := hide (Tf_7.out.trans (bq.mono Tf_7.out.size))
  have Tg_8 := hide (Tg_7.out.trans (bq.mono Tg_7.out.size))
  have Tk_8 := hide (Tk_7.out.trans (bq.mono Tk_7.out.size))
  clear bq
  rcases hx with ⟨rfl, h1⟩ | ⟨rfl, h1⟩
  rotate_left
  ·have HE := hide (HBK.out.trans (C8.out.mono HBK.out.size))
   clear h1
   go_wp2_with fail
   go_ret
   exact ⟨rfl, HE.out⟩
  have HCf := hide h1
  clear h1
  have l0 := run_ldFa (HX.out.below C8.out)
  have l1 := run_ldFa (HZ.out.below C8.out)
  go_wp2_with fail
  clear l0 l1
  refine (tWithin_any a c _ (HA.out.below C8.out) (HC.out.below C8.out) (by have := HR.out.2.2.2; omega)).mono ?_
  rintro e w9 ⟨x3, er, rfl, hw, bq⟩
  have C9 := hide (C8.out.trans (bq.mono C8.out.size))
  have Tf_9 := hide (Tf_8.out.trans (bq.mono Tf_8.out.size))
  have Tg_9 := hide (Tg_8.out.trans (bq.mono Tg_8.out.size))
  have Tk_9 := hide (Tk_8.out.trans (bq.mono Tk_8.out.size))
  obtain ⟨rfl, hw2⟩ := hw.holds (HW1.out.1) (HCf.out)
  have HV1 := hide hw2
  clear hw2
  clear hw
  clear bq
  have l0 := run_ldFa (HY.out.below C9.out)
  have l1 := run_ldFa (HZ.out.below C9.out)
  go_wp2_with fail
  clear l0 l1
  refine (tWithin_any b c _ (HB.out.below C9.out) (HC.out.below C9.out) (by have := HR.out.2.2.2; omega)).mono ?_
  rintro e w10 ⟨x4, er, rfl, hw, bq⟩
  have C10 := hide (C9.out.trans (bq.mono C9.out.size))
  have Tf_10 := hide (Tf_9.out.trans (bq.mono Tf_9.out.size))
  have Tg_10 := hide (Tg_9.out.trans (bq.mono Tg_9.out.size))
  have Tk_10 := hide (Tk_9.out.trans (bq.mono Tk_9.out.size))
  obtain ⟨rfl, hw2⟩ := hw.holds (HW1.out.2.1) (HCf.out)
  have HV2 := hide hw2
  clear hw2
  clear hw
  clear bq
  have l0 := run_ldFa (HXf.out.below Tf_10.out)
  have l1 := run_ldFa (HZ.out.below C10.out)
  go_wp2_with fail
  clear l0 l1
  refine (tWithin_any f c _ (HOf.out.below Tf_10.out) (HC.out.below C10.out) (by have := HR.out.2.2.2; have := HQf.out.2; omega)).mono ?_
  rintro e w11 ⟨x5, er, rfl, hw, bq⟩
  have C11 := hide (C10.out.trans (bq.mono C10.out.size))
  have Tf_11 := hide (Tf_10.out.trans (bq.mono Tf_10.out.size))
  have Tg_11 := hide (Tg_10.out.trans (bq.mono Tg_10.out.size))
  have Tk_11 := hide (Tk_10.out.trans (bq.mono Tk_10.out.size))
  obtain ⟨rfl, hw2⟩ := hw.holds (HIf.out.form) (HCf.out)
  have hx5 : x5 = (x3 && x4) := by
   rw [Bool.eq_iff_iff, Bool.and_eq_true, hw2, HV1.out, HV2.out]
   exact wi_join HIf.out
  subst hx5
  clear hw2 HV1 HV2
  clear hw
  clear bq
  have HE := hide (HBK.out.trans (C11.out.mono HBK.out.size))
  cases x3 with
  | false =>
   cases x4 with
   | false =>
    go_wp2_with fail
    go_ret
    exact ⟨rfl, HE.out⟩
   | true =>
    go_wp2_with fail
    go_ret
    exact ⟨rfl, HE.out⟩
  | true =>
   cases x4 with
   | false =>
    go_wp2_with fail
    go_ret
    exact ⟨rfl, HE.out⟩
   | true =>
    go_wp2_with fail
    go_ret
    exact ⟨rfl, HE.out⟩
theorem tombUnion_u (a b c : Fc) (w : World) (hA : FcU w a) (hB : FcU w b) (hC : FcU w c) :
  Calls Tryz.prog 5 #[FaV (mkF a), FaV (mkF b), FaV (mkF c)] w fun e w' => e = .returned (.bool true) ∧ Below w.heap.size w w' :=
 tombUnion_law a b c w hA.ok hB.ok hC.ok hA.row hB.row hC.row (by have := hA.rn; have := hB.rn; have := hC.rn; omega)
end Go.Proofs.YtalpnhfoaohhhaaGreat
