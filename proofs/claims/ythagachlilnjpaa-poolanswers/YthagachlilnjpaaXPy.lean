/- The law's plays, kind by kind. -/
import Derived.Test.YthagachlilnjpaaXPx
namespace Go.Proofs.Ythagachlilnjpaa
open Go.RowKit Go.Maps
variable {w w' w2 : World} {g mb r made K c : Nat} {M : Int → Option Ltr} {C : Int → List Int} {ao bo : Option Addr} {Q : List Mde}
attribute [local go_sem ↓] ldT_eq stT_eq ldO_eq stO_eq ldD_eq stD_eq

/-- what a play leaves -/
def Fr (w : World) (M M' : Int → Option Ltr) : Prop := ∀ x l, M' x = some l → ∀ k, blk l.bo = some k → (∃ y m, M y = some m ∧ blk m.bo = some k) ∨ w.heap.size ≤ k
theorem Fr.refl (w : World) (M : Int → Option Ltr) : Fr w M M := fun x l e _ ek => Or.inl ⟨x, l, e, ek⟩
theorem Fr.del (w : World) (M : Int → Option Ltr) (x : Int) : Fr w M (mdel M x) := fun y l e _ ek => Or.inl ⟨y, l, mdel_some e, ek⟩
theorem Fr.put (w : World) (M : Int → Option Ltr) (x : Int) (l : Ltr) (h : ∀ k, blk l.bo = some k → (∃ y m, M y = some m ∧ blk m.bo = some k) ∨ w.heap.size ≤ k) : Fr w M (mput M x l) := fun y m e k ek => by
  unfold mput at e
  by_cases hy : y = x
  · rw [if_pos hy] at e
    obtain rfl := Option.some.inj e
    exact h k ek
  · rw [if_neg hy] at e
    exact Or.inl ⟨y, m, e, ek⟩
def PlX (w w' : World) (g mb r : Nat) (ao : Option Addr) (made K : Nat) (M : Int → Option Ltr) (e : Ending) : Prop := e = .returned (.bool true) ∧ ∃ made' K' M' C' bo c' Q', PX w' g mb r made' K' M' C' bo c' Q' ∧ Kx w w' g mb r ao bo ∧ made' ≤ made + 1 ∧ K' ≤ K + 1 ∧ Fr w M M'
/-- what a play that only looks leaves -/
def PlZ (w w' : World) (g mb r : Nat) (made K : Nat) (M : Int → Option Ltr) (C : Int → List Int) (ao : Option Addr) (c : Nat) (Q : List Mde) (e : Ending) : Prop := e = .returned (.bool true) ∧ PX w' g mb r made K M C ao c Q ∧ Kx w w' g mb r ao ao
theorem PlZ.x {e : Ending} (h : PlZ w w' g mb r made K M C ao c Q e) : PlX w w' g mb r ao made K M e := ⟨h.1, _, _, _, _, _, _, _, h.2.1, h.2.2, Nat.le_succ _, Nat.le_succ _, Fr.refl _ _⟩
theorem PlX.same (X : PX w g mb r made K M C ao c Q) (hb : Below w.heap.size w w') : PlX w w' g mb r ao made K M (.returned (.bool true)) := ⟨rfl, _, _, _, _, _, _, _, X.below hb, Kx.of_below hb, Nat.le_succ _, Nat.le_succ _, Fr.refl _ _⟩
set_option maxRecDepth 100000 in
set_option maxHeartbeats 0 in
theorem plays_2n (X : PX w g mb r made K M C ao c Q) (sec : Bool) (N Xx Yy : Int) (ob : Option Addr) (on oc : Nat) (hN : i64ok N) (hXx : i64ok Xx) (hma : made < 3518437208880) (hK : K < 9000000000000) (Z : List Int) (SB : BS w ob on oc Z) (hon : on ≤ 140737488355328) (HMn : Hid (M N = none)) :
    Calls Try.prog 7 #[ptr g, ptr r, .agg (OC ⟨2, sec, N, Xx, Yy, ob, on, oc⟩)] w fun e w' => PlZ w w' g mb r made K M C ao c Q e := by
  obtain ⟨w1, hw1⟩ : ∃ w1, w.alloc (.cells (OC ⟨2, sec, N, Xx, Yy, ob, on, oc⟩) 31) = w1 := ⟨_, rfl⟩
  obtain ⟨g1, hg1⟩ : ∃ g1, w.heap.size = g1 := ⟨_, rfl⟩
  have b1 := below_new w (.cells (OC ⟨2, sec, N, Xx, Yy, ob, on, oc⟩) 31)
  have O1 := OBox_new w ⟨2, sec, N, Xx, Yy, ob, on, oc⟩
  rw [hw1] at b1
  rw [hw1, hg1] at O1
  have X1 := X.below b1
  have y0 := O1.c0
  have y2 := O1.c2
  simp only at y0 y2
  have HX := hide X
  have HX1 := hide X1
  have HO1 := hide O1
  have HB1 := hide b1
  have HSB := hide (SB.below b1)
  have HNM : Hid (i64ok N ∧ i64ok Xx ∧ made < 3518437208880 ∧ K < 9000000000000 ∧ on ≤ 140737488355328) := ⟨hN, hXx, hma, hK, hon⟩
  have HG1 : Hid (g < g1 ∧ mb < g1 ∧ r < g1 ∧ (∀ k, blk ao = some k → k < g1) ∧ ∀ x l, M x = some l → ∀ k, blk l.bo = some k → k < g1) := ⟨by have := X.P.g_lt; omega, by have := X.P.mb_lt; omega, by have := X.R.lt; omega, (fun k e => by have := X.R.row.lt k e; omega), (fun x l e k ek => by have := X.P.rlt x l e k ek; omega)⟩
  clear X X1 O1 b1 hN hXx hma hK SB hon
  go_enter Try.func7, Try.ntmps7
  have HC := hide (look_no HX1.out.P HNM.out.1 HMn.out)
  go_wp2_with fail
  refine HC.out.mono ?_
  rintro e w2 ⟨rfl, b2⟩
  have X2 := HX1.out.below b2
  have F2 : Fw w1 w2 g mb := Fw.of_below b2
  obtain ⟨g3, hg3⟩ : ∃ g3, w2.heap.size = g3 := ⟨_, rfl⟩
  obtain ⟨w3, hst30, T3, b3, z3⟩ := madeT w2 t0 g3 hg3
  have hst3 : (stT (.pointer (some ⟨g3, 0, none⟩)) (.agg (TC t0))).run Try.prog (w2.alloc (.cells #[.int .i64 0, .int .i64 0, .slice none 0 0] 40)) = .ok () w3 := hst30
  clear hst30
  have X3 := X2.below b3
  have O3 := (HO1.out.fw F2 (by have := HG1.out; omega) (by have := HG1.out; omega)).below b3
  have z2 := O3.c2
  simp only at z2
  have HC4 := hide (rlook_no X3.R HNM.out.1 (X3.und_no HMn.out))
  have HX3 := hide X3
  have HT3 := hide T3
  have HK3 : Hid (Kx w w3 g mb r ao ao) := (Kx.of_below HB1.out).trans ((Kx.of_fw F2).trans (Kx.of_below b3))
  clear X2 F2 X3 O3 T3 b3 z3 HC
  go_wp2_with fail
  refine HC4.out.mono ?_
  rintro e w4 ⟨rfl, b4⟩
  obtain ⟨g5, hg5⟩ : ∃ g5, w4.heap.size = g5 := ⟨_, rfl⟩
  obtain ⟨w5, hst50, D5, b5, z5⟩ := madeD w4 d0 g5 hg5
  have hst5 : (stD (.pointer (some ⟨g5, 0, none⟩)) (.agg (DC d0))).run Try.prog (w4.alloc (.cells #[.int .i64 0, .int .i64 0, .string ⟨#[]⟩, .bool false] 46)) = .ok () w5 := hst50
  clear hst50
  have b45 := b4.trans (b5.mono b4.size)
  have hl1 := run_ldT (HT3.out.below b45)
  have hl2 := run_ldD D5
  have HSa : Hid (Calls Try.prog 12 #[TV t0, DV d0] w5 fun e w' => e = .returned (.bool true) ∧ Below w5.heap.size w5 w') := same_any 0 0 none 0 0 [] false w5 (BS.nil_ _)
  have HX5 := hide (HX3.out.below b45)
  have HK5 := hide (HK3.out.trans (Kx.of_below (g := g) (mb := mb) (r := r) (ao := ao) b45))
  clear b4 D5 b5 z5 b45 HC4 z2
  go_wp2_with fail
  refine HSa.out.mono ?_
  rintro e w6 ⟨rfl, b6⟩
  have HX6 := hide (HX5.out.below b6)
  have HK6 := hide (HK5.out.trans (Kx.of_below (g := g) (mb := mb) (r := r) (ao := ao) b6))
  clear b6 HSa
  go_wp2_with fail
  go_ret
  exact ⟨rfl, HX6.out, HK6.out⟩
set_option maxRecDepth 100000 in
set_option maxHeartbeats 0 in
theorem plays_2s (X : PX w g mb r made K M C ao c Q) (sec : Bool) (N Xx Yy : Int) (ob : Option Addr) (on oc : Nat) (hN : i64ok N) (hXx : i64ok Xx) (hma : made < 3518437208880) (hK : K < 9000000000000) (Z : List Int) (SB : BS w ob on oc Z) (hon : on ≤ 140737488355328) {l : Ltr} (HMs : Hid (M N = some l)) :
    Calls Try.prog 7 #[ptr g, ptr r, .agg (OC ⟨2, sec, N, Xx, Yy, ob, on, oc⟩)] w fun e w' => PlZ w w' g mb r made K M C ao c Q e := by
  obtain ⟨w1, hw1⟩ : ∃ w1, w.alloc (.cells (OC ⟨2, sec, N, Xx, Yy, ob, on, oc⟩) 31) = w1 := ⟨_, rfl⟩
  obtain ⟨g1, hg1⟩ : ∃ g1, w.heap.size = g1 := ⟨_, rfl⟩
  have b1 := below_new w (.cells (OC ⟨2, sec, N, Xx, Yy, ob, on, oc⟩) 31)
  have O1 := OBox_new w ⟨2, sec, N, Xx, Yy, ob, on, oc⟩
  rw [hw1] at b1
  rw [hw1, hg1] at O1
  have X1 := X.below b1
  have y0 := O1.c0
  have y2 := O1.c2
  simp only at y0 y2
  have HX := hide X
  have HX1 := hide X1
  have HO1 := hide O1
  have HB1 := hide b1
  have HSB := hide (SB.below b1)
  have HNM : Hid (i64ok N ∧ i64ok Xx ∧ made < 3518437208880 ∧ K < 9000000000000 ∧ on ≤ 140737488355328) := ⟨hN, hXx, hma, hK, hon⟩
  have HG1 : Hid (g < g1 ∧ mb < g1 ∧ r < g1 ∧ (∀ k, blk ao = some k → k < g1) ∧ ∀ x l, M x = some l → ∀ k, blk l.bo = some k → k < g1) := ⟨by have := X.P.g_lt; omega, by have := X.P.mb_lt; omega, by have := X.R.lt; omega, (fun k e => by have := X.R.row.lt k e; omega), (fun x l e k ek => by have := X.P.rlt x l e k ek; omega)⟩
  clear X X1 O1 b1 hN hXx hma hK SB hon
  go_enter Try.func7, Try.ntmps7
  obtain ⟨f, t, o, n, cc⟩ := l
  obtain ⟨j, hj, hjm, hQ⟩ := HX.out.und_some HMs.out
  simp only at hQ
  have HJ : Hid (N = (j : Int) + 1 ∧ j < made ∧ Q.getD j d0 = ⟨f, t, strOfNums (C N), false⟩) := ⟨hj, hjm, hQ⟩
  clear hj hjm hQ
  have HC := hide (look_yes HX1.out.P HNM.out.1 HMs.out)
  go_wp2_with fail
  refine HC.out.mono ?_
  rintro e w2 ⟨bt, ct, rfl, B2, N2⟩
  simp only at B2
  obtain ⟨g3, hg3⟩ : ∃ g3, w2.heap.size = g3 := ⟨_, rfl⟩
  obtain ⟨w3, hst3, T3, b3, z3⟩ := madeT w2 ⟨f, t, bt, n, ct⟩ g3 hg3
  rw [t0_cells] at hst3
  have b23 := N2.1.trans (b3.mono N2.1.size)
  have X3 := HX1.out.below b23
  have z2 := (HO1.out.below b23).c2
  simp only at z2
  have hC4 := rlook_yes X3.R HNM.out.1 HJ.out.1 HJ.out.2.1 (by rw [HJ.out.2.2])
  rw [HJ.out.2.2] at hC4
  have HC4 := hide hC4
  have HX3 := hide X3
  have HT3 := hide (And.intro T3 (B2.below b3))
  have HK3 : Hid (Kx w w3 g mb r ao ao) := (Kx.of_below HB1.out).trans (Kx.of_below b23)
  clear X3 T3 b3 z3 HC B2 N2 b23 hC4
  go_wp2_with fail
  refine HC4.out.mono ?_
  rintro e w4 ⟨rfl, b4⟩
  obtain ⟨g5, hg5⟩ : ∃ g5, w4.heap.size = g5 := ⟨_, rfl⟩
  obtain ⟨w5, hst5, D5, b5, z5⟩ := madeD w4 ⟨f, t, strOfNums (C N), false⟩ g5 hg5
  rw [d0_cells] at hst5
  have b45 := b4.trans (b5.mono b4.size)
  have hl1 := run_ldT (HT3.out.1.below b45)
  have hl2 := run_ldD D5
  have HSa := hide (same_any f t bt n ct (C N) false w5 (HT3.out.2.below b45).bs)
  have HX5 := hide (HX3.out.below b45)
  have HK5 := hide (HK3.out.trans (Kx.of_below (g := g) (mb := mb) (r := r) (ao := ao) b45))
  clear b4 D5 b5 z5 b45 HC4 z2
  go_wp2_with fail
  refine HSa.out.mono ?_
  rintro e w6 ⟨rfl, b6⟩
  have HX6 := hide (HX5.out.below b6)
  have HK6 := hide (HK5.out.trans (Kx.of_below (g := g) (mb := mb) (r := r) (ao := ao) b6))
  clear b6 HSa
  go_wp2_with fail
  go_ret
  exact ⟨rfl, HX6.out, HK6.out⟩
set_option maxRecDepth 100000 in
set_option maxHeartbeats 0 in
theorem plays_3n (X : PX w g mb r made K M C ao c Q) (sec : Bool) (N Xx Yy : Int) (ob : Option Addr) (on oc : Nat) (hN : i64ok N) (hXx : i64ok Xx) (hma : made < 3518437208880) (hK : K < 9000000000000) (Z : List Int) (SB : BS w ob on oc Z) (hon : on ≤ 140737488355328) (HMn : Hid (M N = none)) :
    Calls Try.prog 7 #[ptr g, ptr r, .agg (OC ⟨3, sec, N, Xx, Yy, ob, on, oc⟩)] w fun e w' => PlX w w' g mb r ao made K M e := by
  obtain ⟨w1, hw1⟩ : ∃ w1, w.alloc (.cells (OC ⟨3, sec, N, Xx, Yy, ob, on, oc⟩) 31) = w1 := ⟨_, rfl⟩
  obtain ⟨g1, hg1⟩ : ∃ g1, w.heap.size = g1 := ⟨_, rfl⟩
  have b1 := below_new w (.cells (OC ⟨3, sec, N, Xx, Yy, ob, on, oc⟩) 31)
  have O1 := OBox_new w ⟨3, sec, N, Xx, Yy, ob, on, oc⟩
  rw [hw1] at b1
  rw [hw1, hg1] at O1
  have X1 := X.below b1
  have y0 := O1.c0
  have y2 := O1.c2
  simp only at y0 y2
  have HX := hide X
  have HX1 := hide X1
  have HO1 := hide O1
  have HB1 := hide b1
  have HSB := hide (SB.below b1)
  have HNM : Hid (i64ok N ∧ i64ok Xx ∧ made < 3518437208880 ∧ K < 9000000000000 ∧ on ≤ 140737488355328) := ⟨hN, hXx, hma, hK, hon⟩
  have HG1 : Hid (g < g1 ∧ mb < g1 ∧ r < g1 ∧ (∀ k, blk ao = some k → k < g1) ∧ ∀ x l, M x = some l → ∀ k, blk l.bo = some k → k < g1) := ⟨by have := X.P.g_lt; omega, by have := X.P.mb_lt; omega, by have := X.R.lt; omega, (fun k e => by have := X.R.row.lt k e; omega), (fun x l e k ek => by have := X.P.rlt x l e k ek; omega)⟩
  clear X X1 O1 b1 hN hXx hma hK SB hon
  go_enter Try.func7, Try.ntmps7
  have HC := hide (take_no HX1.out.P HNM.out.1 HMn.out)
  go_wp2_with fail
  refine HC.out.mono ?_
  rintro e w2 ⟨rfl, P2, F2⟩
  rw [mdel_none HMn.out] at P2
  have X2 : PX w2 g mb r made K M C ao c Q := ⟨P2, HX1.out.R.fw F2 HX1.out.s1 HX1.out.s2, HX1.out.q, HX1.out.s1, HX1.out.s2, HX1.out.s3⟩
  obtain ⟨g3, hg3⟩ : ∃ g3, w2.heap.size = g3 := ⟨_, rfl⟩
  obtain ⟨w3, hst30, T3, b3, z3⟩ := madeT w2 t0 g3 hg3
  have hst3 : (stT (.pointer (some ⟨g3, 0, none⟩)) (.agg (TC t0))).run Try.prog (w2.alloc (.cells #[.int .i64 0, .int .i64 0, .slice none 0 0] 40)) = .ok () w3 := hst30
  clear hst30
  have X3 := X2.below b3
  have O3 := (HO1.out.fw F2 (by have := HG1.out; omega) (by have := HG1.out; omega)).below b3
  have z2 := O3.c2
  simp only at z2
  have HC4 := hide (spend_no X3.R HNM.out.1 (X3.und_no HMn.out))
  have HX3 := hide X3
  have HT3 := hide T3
  have HK3 : Hid (Kx w w3 g mb r ao ao) := (Kx.of_below HB1.out).trans ((Kx.of_fw F2).trans (Kx.of_below b3))
  clear X2 F2 X3 O3 T3 b3 z3 HC P2
  go_wp2_with fail
  refine HC4.out.mono ?_
  rintro e w4 ⟨rfl, b4⟩
  obtain ⟨g5, hg5⟩ : ∃ g5, w4.heap.size = g5 := ⟨_, rfl⟩
  obtain ⟨w5, hst50, D5, b5, z5⟩ := madeD w4 d0 g5 hg5
  have hst5 : (stD (.pointer (some ⟨g5, 0, none⟩)) (.agg (DC d0))).run Try.prog (w4.alloc (.cells #[.int .i64 0, .int .i64 0, .string ⟨#[]⟩, .bool false] 46)) = .ok () w5 := hst50
  clear hst50
  have b45 := b4.trans (b5.mono b4.size)
  have hl1 := run_ldT (HT3.out.below b45)
  have hl2 := run_ldD D5
  have HSa : Hid (Calls Try.prog 12 #[TV t0, DV d0] w5 fun e w' => e = .returned (.bool true) ∧ Below w5.heap.size w5 w') := same_any 0 0 none 0 0 [] false w5 (BS.nil_ _)
  have HX5 := hide (HX3.out.below b45)
  have HK5 := hide (HK3.out.trans (Kx.of_below (g := g) (mb := mb) (r := r) (ao := ao) b45))
  clear b4 D5 b5 z5 b45 HC4 z2
  go_wp2_with fail
  refine HSa.out.mono ?_
  rintro e w6 ⟨rfl, b6⟩
  have HX6 := hide (HX5.out.below b6)
  have HK6 := hide (HK5.out.trans (Kx.of_below (g := g) (mb := mb) (r := r) (ao := ao) b6))
  clear b6 HSa
  go_wp2_with fail
  go_ret
  exact ⟨rfl, _, _, _, _, _, _, _, HX6.out, HK6.out, Nat.le_succ _, Nat.le_succ _, Fr.refl _ _⟩
set_option maxRecDepth 100000 in
set_option maxHeartbeats 0 in
theorem plays_3s (X : PX w g mb r made K M C ao c Q) (sec : Bool) (N Xx Yy : Int) (ob : Option Addr) (on oc : Nat) (hN : i64ok N) (hXx : i64ok Xx) (hma : made < 3518437208880) (hK : K < 9000000000000) (Z : List Int) (SB : BS w ob on oc Z) (hon : on ≤ 140737488355328) {l : Ltr} (HMs : Hid (M N = some l)) :
    Calls Try.prog 7 #[ptr g, ptr r, .agg (OC ⟨3, sec, N, Xx, Yy, ob, on, oc⟩)] w fun e w' => PlX w w' g mb r ao made K M e := by
  obtain ⟨w1, hw1⟩ : ∃ w1, w.alloc (.cells (OC ⟨3, sec, N, Xx, Yy, ob, on, oc⟩) 31) = w1 := ⟨_, rfl⟩
  obtain ⟨g1, hg1⟩ : ∃ g1, w.heap.size = g1 := ⟨_, rfl⟩
  have b1 := below_new w (.cells (OC ⟨3, sec, N, Xx, Yy, ob, on, oc⟩) 31)
  have O1 := OBox_new w ⟨3, sec, N, Xx, Yy, ob, on, oc⟩
  rw [hw1] at b1
  rw [hw1, hg1] at O1
  have X1 := X.below b1
  have y0 := O1.c0
  have y2 := O1.c2
  simp only at y0 y2
  have HX := hide X
  have HX1 := hide X1
  have HO1 := hide O1
  have HB1 := hide b1
  have HSB := hide (SB.below b1)
  have HNM : Hid (i64ok N ∧ i64ok Xx ∧ made < 3518437208880 ∧ K < 9000000000000 ∧ on ≤ 140737488355328) := ⟨hN, hXx, hma, hK, hon⟩
  have HG1 : Hid (g < g1 ∧ mb < g1 ∧ r < g1 ∧ (∀ k, blk ao = some k → k < g1) ∧ ∀ x l, M x = some l → ∀ k, blk l.bo = some k → k < g1) := ⟨by have := X.P.g_lt; omega, by have := X.P.mb_lt; omega, by have := X.R.lt; omega, (fun k e => by have := X.R.row.lt k e; omega), (fun x l e k ek => by have := X.P.rlt x l e k ek; omega)⟩
  clear X X1 O1 b1 hN hXx hma hK SB hon
  go_enter Try.func7, Try.ntmps7
  obtain ⟨f, t, o, n, cc⟩ := l
  obtain ⟨j, hj, hjm, hQ⟩ := HX.out.und_some HMs.out
  simp only at hQ
  have HJ : Hid (N = (j : Int) + 1 ∧ j < made ∧ Q.getD j d0 = ⟨f, t, strOfNums (C N), false⟩) := ⟨hj, hjm, hQ⟩
  clear hj hjm hQ
  have HC := hide (take_yes HX1.out.P HNM.out.1 HMs.out)
  go_wp2_with fail
  refine HC.out.mono ?_
  rintro e w2 ⟨bt, ct, rfl, B2, hn2, P2, F2⟩
  simp only at B2
  obtain ⟨g3, hg3⟩ : ∃ g3, w2.heap.size = g3 := ⟨_, rfl⟩
  obtain ⟨w3, hst3, T3, b3, z3⟩ := madeT w2 ⟨f, t, bt, n, ct⟩ g3 hg3
  rw [t0_cells] at hst3
  have R3 := (HX1.out.R.fw F2 HX1.out.s1 HX1.out.s2).below b3
  have O3 := (HO1.out.fw F2 (by have := HG1.out; omega) (by have := HG1.out; omega)).below b3
  have z2 := O3.c2
  simp only at z2
  have HC4 := hide (spend_yes R3 HNM.out.1 HJ.out.1 HJ.out.2.1 HJ.out.2.2)
  have HP3 := hide (P2.below b3)
  have hs12 := F2.size
  have HL1 := hide HO1.out.lt
  have HT3 : Hid (TBox w3 g3 ⟨f, t, bt, n, ct⟩ ∧ BR w3 bt n ct (C N) ∧ w1.heap.size ≤ g3 ∧ ∀ k, blk bt = some k → w1.heap.size ≤ k) := ⟨T3, B2.below b3, by omega, hn2⟩
  have HK3 : Hid (Kx w w3 g mb r ao ao) := (Kx.of_below HB1.out).trans ((Kx.of_fw F2).trans (Kx.of_below b3))
  clear T3 b3 z3 HC B2 hn2 P2 F2 R3 O3 hs12
  go_wp2_with fail
  refine HC4.out.mono ?_
  rintro e w4 ⟨rfl, R4, K4⟩
  have P4 := HP3.out.kr (n := 0) (Q' := []) K4 HX1.out.s1 HX1.out.s2 (fun x l e => HX1.out.s3 x l (mdel_some e)) rfl
  have q4 := HX1.out.q.del j HJ.out.2.1 f t (strOfNums (C N))
  rw [← HJ.out.1] at q4
  have X4 : PX w4 g mb r made K (mdel M N) C ao c (Q.set j ⟨f, t, strOfNums (C N), true⟩) := ⟨P4, R4, q4, HX1.out.s1, HX1.out.s2, fun x l e => HX1.out.s3 x l (mdel_some e)⟩
  have T4 : TBox w4 g3 ⟨f, t, bt, n, ct⟩ := (K4.block g3 HT3.out.1.lt (by have h1 := HG1.out.2.2.1; have h2 := HT3.out.2.2.1; have h3 := HL1.out; omega) (fun e => by have h1 := HG1.out.2.2.2.1 g3 e.symm; have h2 := HT3.out.2.2.1; have h3 := HL1.out; omega)).trans HT3.out.1
  have B4 : BR w4 bt n ct (C N) := HT3.out.2.1.keep fun k e => K4.block k (HT3.out.2.1.lt k e) (by have h1 := HG1.out.2.2.1; have h2 := HT3.out.2.2.2 k e; have h3 := HL1.out; omega) (fun x => by have h1 := HG1.out.2.2.2.1 k x.symm; have h2 := HT3.out.2.2.2 k e; have h3 := HL1.out; omega)
  obtain ⟨g5, hg5⟩ : ∃ g5, w4.heap.size = g5 := ⟨_, rfl⟩
  obtain ⟨w5, hst5, D5, b5, z5⟩ := madeD w4 ⟨f, t, strOfNums (C N), false⟩ g5 hg5
  rw [d0_cells] at hst5
  have hl1 := run_ldT (T4.below b5)
  have hl2 := run_ldD D5
  have HSa := hide (same_any f t bt n ct (C N) false w5 (B4.below b5).bs)
  have HX5 := hide (X4.below b5)
  have HK5 := hide (HK3.out.trans ((Kx.of_kr (g := g) (mb := mb) K4).trans (Kx.of_below b5)))
  clear D5 b5 z5 HC4 z2 R4 K4 P4 q4 X4 T4 B4
  go_wp2_with fail
  refine HSa.out.mono ?_
  rintro e w6 ⟨rfl, b6⟩
  have HX6 := hide (HX5.out.below b6)
  have HK6 := hide (HK5.out.trans (Kx.of_below (g := g) (mb := mb) (r := r) (ao := ao) b6))
  clear b6 HSa
  go_wp2_with fail
  go_ret
  exact ⟨rfl, _, _, _, _, _, _, _, HX6.out, HK6.out, Nat.le_succ _, Nat.le_succ _, Fr.del _ _ _⟩
set_option maxRecDepth 100000 in
set_option maxHeartbeats 0 in
theorem plays_4n (X : PX w g mb r made K M C ao c Q) (sec : Bool) (N Xx Yy : Int) (ob : Option Addr) (on oc : Nat) (hN : i64ok N) (hXx : i64ok Xx) (hma : made < 3518437208880) (hK : K < 9000000000000) (Z : List Int) (SB : BS w ob on oc Z) (hon : on ≤ 140737488355328) (HMn : Hid (M N = none)) :
    Calls Try.prog 7 #[ptr g, ptr r, .agg (OC ⟨4, sec, N, Xx, Yy, ob, on, oc⟩)] w fun e w' => PlX w w' g mb r ao made K M e := by
  obtain ⟨w1, hw1⟩ : ∃ w1, w.alloc (.cells (OC ⟨4, sec, N, Xx, Yy, ob, on, oc⟩) 31) = w1 := ⟨_, rfl⟩
  obtain ⟨g1, hg1⟩ : ∃ g1, w.heap.size = g1 := ⟨_, rfl⟩
  have b1 := below_new w (.cells (OC ⟨4, sec, N, Xx, Yy, ob, on, oc⟩) 31)
  have O1 := OBox_new w ⟨4, sec, N, Xx, Yy, ob, on, oc⟩
  rw [hw1] at b1
  rw [hw1, hg1] at O1
  have X1 := X.below b1
  have y0 := O1.c0
  have y2 := O1.c2
  simp only at y0 y2
  have HX := hide X
  have HX1 := hide X1
  have HO1 := hide O1
  have HB1 := hide b1
  have HSB := hide (SB.below b1)
  have HNM : Hid (i64ok N ∧ i64ok Xx ∧ made < 3518437208880 ∧ K < 9000000000000 ∧ on ≤ 140737488355328) := ⟨hN, hXx, hma, hK, hon⟩
  have HG1 : Hid (g < g1 ∧ mb < g1 ∧ r < g1 ∧ (∀ k, blk ao = some k → k < g1) ∧ ∀ x l, M x = some l → ∀ k, blk l.bo = some k → k < g1) := ⟨by have := X.P.g_lt; omega, by have := X.P.mb_lt; omega, by have := X.R.lt; omega, (fun k e => by have := X.R.row.lt k e; omega), (fun x l e k ek => by have := X.P.rlt x l e k ek; omega)⟩
  clear X X1 O1 b1 hN hXx hma hK SB hon
  go_enter Try.func7, Try.ntmps7
  have HC := hide (spend_no HX1.out.R HNM.out.1 (HX1.out.und_no HMn.out))
  go_wp2_with fail
  refine HC.out.mono ?_
  rintro e w4 ⟨rfl, b4⟩
  obtain ⟨g5, hg5⟩ : ∃ g5, w4.heap.size = g5 := ⟨_, rfl⟩
  obtain ⟨w5, hst50, D5, b5, z5⟩ := madeD w4 d0 g5 hg5
  have hst5 : (stD (.pointer (some ⟨g5, 0, none⟩)) (.agg (DC d0))).run Try.prog (w4.alloc (.cells #[.int .i64 0, .int .i64 0, .string ⟨#[]⟩, .bool false] 46)) = .ok () w5 := hst50
  clear hst50
  have b45 := b4.trans (b5.mono b4.size)
  have X5 := HX1.out.below b45
  have z2 := (HO1.out.below b45).c2
  simp only at z2
  have HC5 := hide (drop_no X5.P HNM.out.1 HMn.out)
  have HX5 := hide X5
  have HK5 : Hid (Kx w w5 g mb r ao ao) := (Kx.of_below HB1.out).trans (Kx.of_below b45)
  clear b4 D5 b5 z5 b45 HC X5
  go_wp2_with fail
  refine HC5.out.mono ?_
  rintro e w6 ⟨rfl, P6, F6⟩
  rw [mdel_none HMn.out] at P6
  have HX6 : Hid (PX w6 g mb r made K M C ao c Q) := ⟨P6, HX5.out.R.fw F6 HX5.out.s1 HX5.out.s2, HX5.out.q, HX5.out.s1, HX5.out.s2, HX5.out.s3⟩
  have HK6 := hide (HK5.out.trans (Kx.of_fw (r := r) (ao := ao) F6))
  clear P6 F6 HC5
  go_wp2_with fail
  go_ret
  exact ⟨rfl, _, _, _, _, _, _, _, HX6.out, HK6.out, Nat.le_succ _, Nat.le_succ _, Fr.refl _ _⟩
set_option maxRecDepth 100000 in
set_option maxHeartbeats 0 in
theorem plays_4s (X : PX w g mb r made K M C ao c Q) (sec : Bool) (N Xx Yy : Int) (ob : Option Addr) (on oc : Nat) (hN : i64ok N) (hXx : i64ok Xx) (hma : made < 3518437208880) (hK : K < 9000000000000) (Z : List Int) (SB : BS w ob on oc Z) (hon : on ≤ 140737488355328) {l : Ltr} (HMs : Hid (M N = some l)) :
    Calls Try.prog 7 #[ptr g, ptr r, .agg (OC ⟨4, sec, N, Xx, Yy, ob, on, oc⟩)] w fun e w' => PlX w w' g mb r ao made K M e := by
  obtain ⟨w1, hw1⟩ : ∃ w1, w.alloc (.cells (OC ⟨4, sec, N, Xx, Yy, ob, on, oc⟩) 31) = w1 := ⟨_, rfl⟩
  obtain ⟨g1, hg1⟩ : ∃ g1, w.heap.size = g1 := ⟨_, rfl⟩
  have b1 := below_new w (.cells (OC ⟨4, sec, N, Xx, Yy, ob, on, oc⟩) 31)
  have O1 := OBox_new w ⟨4, sec, N, Xx, Yy, ob, on, oc⟩
  rw [hw1] at b1
  rw [hw1, hg1] at O1
  have X1 := X.below b1
  have y0 := O1.c0
  have y2 := O1.c2
  simp only at y0 y2
  have HX := hide X
  have HX1 := hide X1
  have HO1 := hide O1
  have HB1 := hide b1
  have HSB := hide (SB.below b1)
  have HNM : Hid (i64ok N ∧ i64ok Xx ∧ made < 3518437208880 ∧ K < 9000000000000 ∧ on ≤ 140737488355328) := ⟨hN, hXx, hma, hK, hon⟩
  have HG1 : Hid (g < g1 ∧ mb < g1 ∧ r < g1 ∧ (∀ k, blk ao = some k → k < g1) ∧ ∀ x l, M x = some l → ∀ k, blk l.bo = some k → k < g1) := ⟨by have := X.P.g_lt; omega, by have := X.P.mb_lt; omega, by have := X.R.lt; omega, (fun k e => by have := X.R.row.lt k e; omega), (fun x l e k ek => by have := X.P.rlt x l e k ek; omega)⟩
  clear X X1 O1 b1 hN hXx hma hK SB hon
  go_enter Try.func7, Try.ntmps7
  obtain ⟨f, t, o, n, cc⟩ := l
  obtain ⟨j, hj, hjm, hQ⟩ := HX.out.und_some HMs.out
  simp only at hQ
  have HJ : Hid (N = (j : Int) + 1 ∧ j < made ∧ Q.getD j d0 = ⟨f, t, strOfNums (C N), false⟩) := ⟨hj, hjm, hQ⟩
  clear hj hjm hQ
  have HC := hide (spend_yes HX1.out.R HNM.out.1 HJ.out.1 HJ.out.2.1 HJ.out.2.2)
  go_wp2_with fail
  refine HC.out.mono ?_
  rintro e w4 ⟨rfl, R4, K4⟩
  have P4 := HX1.out.P.kr (n := 0) (Q' := []) K4 HX1.out.s1 HX1.out.s2 HX1.out.s3 rfl
  obtain ⟨g5, hg5⟩ : ∃ g5, w4.heap.size = g5 := ⟨_, rfl⟩
  obtain ⟨w5, hst5, D5, b5, z5⟩ := madeD w4 ⟨f, t, strOfNums (C N), false⟩ g5 hg5
  rw [d0_cells] at hst5
  have O4 : OBox w4 g1 ⟨4, sec, N, Xx, Yy, ob, on, oc⟩ := (K4.block g1 HO1.out.lt (by have h1 := HG1.out.2.2.1; omega) (fun e => by have h1 := HG1.out.2.2.2.1 g1 e.symm; omega)).trans HO1.out
  have O5 := O4.below b5
  have z2 := O5.c2
  simp only at z2
  have HC5 := hide (drop_yes (P4.below b5) HNM.out.1 HMs.out)
  have HR5 := hide (R4.below b5)
  have HK5 : Hid (Kx w w5 g mb r ao ao) := (Kx.of_below HB1.out).trans ((Kx.of_kr K4).trans (Kx.of_below b5))
  clear R4 K4 P4 D5 b5 z5 HC O4 O5
  go_wp2_with fail
  refine HC5.out.mono ?_
  rintro e w6 ⟨rfl, P6, F6⟩
  have q6 := HX1.out.q.del j HJ.out.2.1 f t (strOfNums (C N))
  rw [← HJ.out.1] at q6
  have HX6 : Hid (PX w6 g mb r made K (mdel M N) C ao c (Q.set j ⟨f, t, strOfNums (C N), true⟩)) := ⟨P6, HR5.out.fw F6 HX1.out.s1 HX1.out.s2, q6, HX1.out.s1, HX1.out.s2, fun x l e => HX1.out.s3 x l (mdel_some e)⟩
  have HK6 := hide (HK5.out.trans (Kx.of_fw (r := r) (ao := ao) F6))
  clear P6 F6 HC5 q6
  go_wp2_with fail
  go_ret
  exact ⟨rfl, _, _, _, _, _, _, _, HX6.out, HK6.out, Nat.le_succ _, Nat.le_succ _, Fr.del _ _ _⟩
set_option maxRecDepth 100000 in
set_option maxHeartbeats 0 in
theorem plays_5n (X : PX w g mb r made K M C ao c Q) (sec : Bool) (N Xx Yy : Int) (ob : Option Addr) (on oc : Nat) (hN : i64ok N) (hXx : i64ok Xx) (hma : made < 3518437208880) (hK : K < 9000000000000) (Z : List Int) (SB : BS w ob on oc Z) (hon : on ≤ 140737488355328) (HMn : Hid (M N = none)) :
    Calls Try.prog 7 #[ptr g, ptr r, .agg (OC ⟨5, sec, N, Xx, Yy, ob, on, oc⟩)] w fun e w' => PlX w w' g mb r ao made K M e := by
  obtain ⟨w1, hw1⟩ : ∃ w1, w.alloc (.cells (OC ⟨5, sec, N, Xx, Yy, ob, on, oc⟩) 31) = w1 := ⟨_, rfl⟩
  obtain ⟨g1, hg1⟩ : ∃ g1, w.heap.size = g1 := ⟨_, rfl⟩
  have b1 := below_new w (.cells (OC ⟨5, sec, N, Xx, Yy, ob, on, oc⟩) 31)
  have O1 := OBox_new w ⟨5, sec, N, Xx, Yy, ob, on, oc⟩
  rw [hw1] at b1
  rw [hw1, hg1] at O1
  have X1 := X.below b1
  have y0 := O1.c0
  have y2 := O1.c2
  simp only at y0 y2
  have HX := hide X
  have HX1 := hide X1
  have HO1 := hide O1
  have HB1 := hide b1
  have HSB := hide (SB.below b1)
  have HNM : Hid (i64ok N ∧ i64ok Xx ∧ made < 3518437208880 ∧ K < 9000000000000 ∧ on ≤ 140737488355328) := ⟨hN, hXx, hma, hK, hon⟩
  have HG1 : Hid (g < g1 ∧ mb < g1 ∧ r < g1 ∧ (∀ k, blk ao = some k → k < g1) ∧ ∀ x l, M x = some l → ∀ k, blk l.bo = some k → k < g1) := ⟨by have := X.P.g_lt; omega, by have := X.P.mb_lt; omega, by have := X.R.lt; omega, (fun k e => by have := X.R.row.lt k e; omega), (fun x l e k ek => by have := X.P.rlt x l e k ek; omega)⟩
  clear X X1 O1 b1 hN hXx hma hK SB hon
  go_enter Try.func7, Try.ntmps7
  have HC := hide (copy_no HX1.out.P HNM.out.1 HMn.out)
  go_wp2_with fail
  refine HC.out.mono ?_
  rintro e w2 ⟨rfl, b2⟩
  have X2 := HX1.out.below b2
  have z2 := (HO1.out.below b2).c2
  simp only at z2
  have HC2 := hide (rcopy_no X2.R HNM.out.1 (X2.und_no HMn.out))
  have HX2 := hide X2
  have HK2 : Hid (Kx w w2 g mb r ao ao) := (Kx.of_below HB1.out).trans (Kx.of_below b2)
  clear b2 HC X2
  go_wp2_with fail
  refine HC2.out.mono ?_
  rintro e w3 ⟨rfl, b3⟩
  have HX6 := hide (HX2.out.below b3)
  have HK6 := hide (HK2.out.trans (Kx.of_below (g := g) (mb := mb) (r := r) (ao := ao) b3))
  clear b3 HC2
  go_wp2_with fail
  go_ret
  exact ⟨rfl, _, _, _, _, _, _, _, HX6.out, HK6.out, Nat.le_succ _, Nat.le_succ _, Fr.refl _ _⟩
set_option maxRecDepth 100000 in
set_option maxHeartbeats 0 in
theorem plays_5s (X : PX w g mb r made K M C ao c Q) (sec : Bool) (N Xx Yy : Int) (ob : Option Addr) (on oc : Nat) (hN : i64ok N) (hXx : i64ok Xx) (hma : made < 3518437208880) (hK : K < 9000000000000) (Z : List Int) (SB : BS w ob on oc Z) (hon : on ≤ 140737488355328) {l : Ltr} (HMs : Hid (M N = some l)) :
    Calls Try.prog 7 #[ptr g, ptr r, .agg (OC ⟨5, sec, N, Xx, Yy, ob, on, oc⟩)] w fun e w' => PlX w w' g mb r ao made K M e := by
  obtain ⟨w1, hw1⟩ : ∃ w1, w.alloc (.cells (OC ⟨5, sec, N, Xx, Yy, ob, on, oc⟩) 31) = w1 := ⟨_, rfl⟩
  obtain ⟨g1, hg1⟩ : ∃ g1, w.heap.size = g1 := ⟨_, rfl⟩
  have b1 := below_new w (.cells (OC ⟨5, sec, N, Xx, Yy, ob, on, oc⟩) 31)
  have O1 := OBox_new w ⟨5, sec, N, Xx, Yy, ob, on, oc⟩
  rw [hw1] at b1
  rw [hw1, hg1] at O1
  have X1 := X.below b1
  have y0 := O1.c0
  have y2 := O1.c2
  simp only at y0 y2
  have HX := hide X
  have HX1 := hide X1
  have HO1 := hide O1
  have HB1 := hide b1
  have HSB := hide (SB.below b1)
  have HNM : Hid (i64ok N ∧ i64ok Xx ∧ made < 3518437208880 ∧ K < 9000000000000 ∧ on ≤ 140737488355328) := ⟨hN, hXx, hma, hK, hon⟩
  have HG1 : Hid (g < g1 ∧ mb < g1 ∧ r < g1 ∧ (∀ k, blk ao = some k → k < g1) ∧ ∀ x l, M x = some l → ∀ k, blk l.bo = some k → k < g1) := ⟨by have := X.P.g_lt; omega, by have := X.P.mb_lt; omega, by have := X.R.lt; omega, (fun k e => by have := X.R.row.lt k e; omega), (fun x l e k ek => by have := X.P.rlt x l e k ek; omega)⟩
  clear X X1 O1 b1 hN hXx hma hK SB hon
  go_enter Try.func7, Try.ntmps7
  obtain ⟨f, t, o, n, cc⟩ := l
  obtain ⟨j, hj, hjm, hQ⟩ := HX.out.und_some HMs.out
  simp only at hQ
  have HJ : Hid (N = (j : Int) + 1 ∧ j < made ∧ Q.getD j d0 = ⟨f, t, strOfNums (C N), false⟩) := ⟨hj, hjm, hQ⟩
  clear hj hjm hQ
  have HC := hide (copy_yes HX1.out.P HNM.out.1 HMs.out (by have := HNM.out; omega) (by have := HNM.out; unfold maxLen; omega))
  go_wp2_with fail
  refine HC.out.mono ?_
  rintro e w2 ⟨rfl, b2', c2', P2, F2, k2⟩
  have R2 := HX1.out.R.fw F2 HX1.out.s1 HX1.out.s2
  have O2 := HO1.out.fw F2 (by have := HG1.out; omega) (by have := HG1.out; omega)
  have z2 := O2.c2
  simp only at z2
  have HC2 := hide (rcopy_yes R2 HNM.out.1 HJ.out.1 HJ.out.2.1 HJ.out.2.2 (by have := HNM.out; omega))
  have HP2 := hide P2
  have HK2 : Hid (Kx w w2 g mb r ao ao) := (Kx.of_below HB1.out).trans (Kx.of_fw F2)
  have HS2 : Hid (∀ k, blk b2' = some k → w1.heap.size ≤ k) := k2
  have HL1 : Hid (g1 < w1.heap.size ∧ w1.heap.size ≤ w2.heap.size) := ⟨HO1.out.lt, F2.size⟩
  clear P2 F2 k2 HC R2 O2
  go_wp2_with fail
  refine HC2.out.mono ?_
  rintro e w3 ⟨rfl, bo5, c5, R5, K5⟩
  have s3' : ∀ x l, mput M ((made + 1 : Nat) : Int) ⟨f, t, b2', n, c2'⟩ x = some l → ∀ k, blk l.bo = some k → k ≠ r ∧ blk ao ≠ some k ∧ k < w2.heap.size := fun x l e k ek => by
    unfold mput at e
    by_cases hx : x = ((made + 1 : Nat) : Int)
    · have hlt := HP2.out.rlt x l (by unfold mput; exact e) k ek
      rw [if_pos hx] at e
      obtain rfl := Option.some.inj e
      have h1 := HS2.out k ek
      have h2 := HL1.out
      have h3 := HG1.out
      exact ⟨by omega, fun y => by have := h3.2.2.2.1 k y; omega, hlt⟩
    · have hlt := HP2.out.rlt x l (by unfold mput; exact e) k ek
      rw [if_neg hx] at e
      have h := HX1.out.s3 x l e k ek
      exact ⟨h.1, h.2, hlt⟩
  have HFR := hide (Fr.put w M ((made + 1 : Nat) : Int) ⟨f, t, b2', n, c2'⟩ (fun k ek => Or.inr (by have h1 := HS2.out k ek; have h2 := HB1.out.size; omega)))
  have P5 := HP2.out.kr (n := 0) (Q' := []) K5 HX1.out.s1 HX1.out.s2 (fun x l e k ek => ⟨(s3' x l e k ek).1, (s3' x l e k ek).2.1⟩) rfl
  have lies : ∀ k, blk bo5 = some k → (blk ao = some k ∨ w2.heap.size ≤ k) := fun k e => by
    rcases K5.lies with x | ⟨i, x, hi⟩
    · exact Or.inl (x ▸ e)
    · rw [x] at e
      have := Option.some.inj e
      exact Or.inr (by omega)
  have HX6 : Hid (PX w3 g mb r (made + 1) _ _ _ bo5 c5 _) := ⟨P5, R5, HX1.out.q.add f t b2' n c2' (C N), HX1.out.s1, fun k e => by
    rcases lies k e with x | x
    · exact HX1.out.s2 k x
    · have h2 := HL1.out; have h3 := HG1.out; constructor <;> omega, fun x l e k ek => ⟨(s3' x l e k ek).1, fun y => by
    rcases lies k y with z | z
    · exact (s3' x l e k ek).2.1 z
    · have := (s3' x l e k ek).2.2; omega⟩⟩
  have HK6 := hide (HK2.out.trans (Kx.of_kr (g := g) (mb := mb) K5))
  clear s3' P5 lies
  clear R5 K5 HC2
  go_wp2_with fail
  go_ret
  exact ⟨rfl, _, _, _, _, _, _, _, HX6.out, HK6.out, Nat.le_refl _, Nat.le_refl _, HFR.out⟩
set_option maxRecDepth 100000 in
set_option maxHeartbeats 0 in
theorem plays_7 (X : PX w g mb r made K M C ao c Q) (sec : Bool) (N Xx Yy : Int) (ob : Option Addr) (on oc : Nat) (hN : i64ok N) (hXx : i64ok Xx) (hma : made < 3518437208880) (hK : K < 9000000000000) (Z : List Int) (SB : BS w ob on oc Z) (hon : on ≤ 140737488355328) :
    Calls Try.prog 7 #[ptr g, ptr r, .agg (OC ⟨7, sec, N, Xx, Yy, ob, on, oc⟩)] w fun e w' => PlZ w w' g mb r made K M C ao c Q e := by
  obtain ⟨w1, hw1⟩ : ∃ w1, w.alloc (.cells (OC ⟨7, sec, N, Xx, Yy, ob, on, oc⟩) 31) = w1 := ⟨_, rfl⟩
  obtain ⟨g1, hg1⟩ : ∃ g1, w.heap.size = g1 := ⟨_, rfl⟩
  have b1 := below_new w (.cells (OC ⟨7, sec, N, Xx, Yy, ob, on, oc⟩) 31)
  have O1 := OBox_new w ⟨7, sec, N, Xx, Yy, ob, on, oc⟩
  rw [hw1] at b1
  rw [hw1, hg1] at O1
  have X1 := X.below b1
  have y0 := O1.c0
  have y2 := O1.c2
  simp only at y0 y2
  have HX := hide X
  have HX1 := hide X1
  have HO1 := hide O1
  have HB1 := hide b1
  have HSB := hide (SB.below b1)
  have HNM : Hid (i64ok N ∧ i64ok Xx ∧ made < 3518437208880 ∧ K < 9000000000000 ∧ on ≤ 140737488355328) := ⟨hN, hXx, hma, hK, hon⟩
  have HG1 : Hid (g < g1 ∧ mb < g1 ∧ r < g1 ∧ (∀ k, blk ao = some k → k < g1) ∧ ∀ x l, M x = some l → ∀ k, blk l.bo = some k → k < g1) := ⟨by have := X.P.g_lt; omega, by have := X.P.mb_lt; omega, by have := X.R.lt; omega, (fun k e => by have := X.R.row.lt k e; omega), (fun x l e k ek => by have := X.P.rlt x l e k ek; omega)⟩
  clear X X1 O1 b1 hN hXx hma hK SB hon
  go_enter Try.func7, Try.ntmps7
  have HC := hide (HX1.out.P.wait_any (by have := HNM.out; omega))
  go_wp2_with fail
  refine HC.out.mono ?_
  rintro e w2 ⟨v, rfl, hrow, b2⟩
  have hr0 : w2.ownsRow 0 3 1 v (wl M made).length ((wl M made).map (Value.int .i64)) := ⟨hrow.1, by
    rcases hrow.2 with h0 | ⟨q, c3, cur, hv, _, x⟩
    · exact Or.inl h0
    · exact Or.inr ⟨q, c3, cur, hv, Nat.zero_le _, x⟩⟩
  obtain ⟨av, cv, rfl⟩ := own_form hr0
  have X2 := HX1.out.below b2
  have HC2 := hide (rwait_any X2.R (by have := HNM.out; omega))
  have HX2 := hide X2
  have HR2 := hide hr0
  have HK2 : Hid (Kx w w2 g mb r ao ao) := (Kx.of_below HB1.out).trans (Kx.of_below b2)
  clear b2 HC X2 hrow hr0
  go_wp2_with fail
  refine HC2.out.mono ?_
  rintro e w3 ⟨bw, mw, cw, rfl, R3, hmw, b3⟩
  have q1 := own_keep HR2.out (w' := w3) fun i e => b3.block i (own_lt HR2.out i e)
  rw [wl_wf HX2.out] at q1
  rw [hmw] at R3
  have hlen : (wf (live Q) made).length ≤ 3518437208883 := by have := wf_len (live Q) made; have := HNM.out; omega
  have HSa := hide (sameInts_any av bw (wf (live Q) made).length cv cw (wf (live Q) made) w3 q1 R3 hlen)
  have HX3 := hide (HX2.out.below b3)
  have HK3 := hide (HK2.out.trans (Kx.of_below (g := g) (mb := mb) (r := r) (ao := ao) b3))
  have e1 : (wl M made).length = (wf (live Q) made).length := by rw [wl_wf HX2.out]
  rw [e1]
  subst hmw
  clear b3 HC2 R3 q1 hlen e1
  go_wp2_with fail
  refine HSa.out.mono ?_
  rintro e w4 ⟨rfl, b4⟩
  have HX6 := hide (HX3.out.below b4)
  have HK6 := hide (HK3.out.trans (Kx.of_below (g := g) (mb := mb) (r := r) (ao := ao) b4))
  clear b4 HSa
  go_wp2_with fail
  go_ret
  exact ⟨rfl, HX6.out, HK6.out⟩
set_option maxRecDepth 100000 in
set_option maxHeartbeats 0 in
theorem plays_8 (X : PX w g mb r made K M C ao c Q) (sec : Bool) (N Xx Yy : Int) (ob : Option Addr) (on oc : Nat) (hN : i64ok N) (hXx : i64ok Xx) (hma : made < 3518437208880) (hK : K < 9000000000000) (Z : List Int) (SB : BS w ob on oc Z) (hon : on ≤ 140737488355328) :
    Calls Try.prog 7 #[ptr g, ptr r, .agg (OC ⟨8, sec, N, Xx, Yy, ob, on, oc⟩)] w fun e w' => PlZ w w' g mb r made K M C ao c Q e := by
  obtain ⟨w1, hw1⟩ : ∃ w1, w.alloc (.cells (OC ⟨8, sec, N, Xx, Yy, ob, on, oc⟩) 31) = w1 := ⟨_, rfl⟩
  obtain ⟨g1, hg1⟩ : ∃ g1, w.heap.size = g1 := ⟨_, rfl⟩
  have b1 := below_new w (.cells (OC ⟨8, sec, N, Xx, Yy, ob, on, oc⟩) 31)
  have O1 := OBox_new w ⟨8, sec, N, Xx, Yy, ob, on, oc⟩
  rw [hw1] at b1
  rw [hw1, hg1] at O1
  have X1 := X.below b1
  have y0 := O1.c0
  have y2 := O1.c2
  simp only at y0 y2
  have HX := hide X
  have HX1 := hide X1
  have HO1 := hide O1
  have HB1 := hide b1
  have HSB := hide (SB.below b1)
  have HNM : Hid (i64ok N ∧ i64ok Xx ∧ made < 3518437208880 ∧ K < 9000000000000 ∧ on ≤ 140737488355328) := ⟨hN, hXx, hma, hK, hon⟩
  have HG1 : Hid (g < g1 ∧ mb < g1 ∧ r < g1 ∧ (∀ k, blk ao = some k → k < g1) ∧ ∀ x l, M x = some l → ∀ k, blk l.bo = some k → k < g1) := ⟨by have := X.P.g_lt; omega, by have := X.P.mb_lt; omega, by have := X.R.lt; omega, (fun k e => by have := X.R.row.lt k e; omega), (fun x l e k ek => by have := X.P.rlt x l e k ek; omega)⟩
  clear X X1 O1 b1 hN hXx hma hK SB hon
  go_enter Try.func7, Try.ntmps7
  have x0 := HX1.out.R.c0
  have HMa : Hid (∀ i, Calls Try.prog 19 #[ptr g] (w1.drewN i) fun e w' => e = .returned (.int .i64 (made : Int)) ∧ w' = w1.drewN i) := fun i => (HX1.out.P.below (below_drewN w1 i)).made_any
  go_wp2_with fail
  go_quiet ((go_at_call 19; exact Calls.quiet_of_same (HMa.out _)))
  go_wp2_with fail
  go_ret
  exact ⟨rfl, HX.out.below (HB1.out.trans ((below_drewN w1 _).mono HB1.out.size)), Kx.of_below (HB1.out.trans ((below_drewN w1 _).mono HB1.out.size))⟩
set_option maxRecDepth 100000 in
set_option maxHeartbeats 0 in
theorem plays_6n (X : PX w g mb r made K M C ao c Q) (sec : Bool) (N Xx Yy : Int) (ob : Option Addr) (on oc : Nat) (hN : i64ok N) (hXx : i64ok Xx) (hma : made < 3518437208880) (hK : K < 9000000000000) (Z : List Int) (SB : BS w ob on oc Z) (hon : on ≤ 140737488355328) (HMn : Hid (M N = none)) :
    Calls Try.prog 7 #[ptr g, ptr r, .agg (OC ⟨6, sec, N, Xx, Yy, ob, on, oc⟩)] w fun e w' => PlX w w' g mb r ao made K M e := by
  obtain ⟨w1, hw1⟩ : ∃ w1, w.alloc (.cells (OC ⟨6, sec, N, Xx, Yy, ob, on, oc⟩) 31) = w1 := ⟨_, rfl⟩
  obtain ⟨g1, hg1⟩ : ∃ g1, w.heap.size = g1 := ⟨_, rfl⟩
  have b1 := below_new w (.cells (OC ⟨6, sec, N, Xx, Yy, ob, on, oc⟩) 31)
  have O1 := OBox_new w ⟨6, sec, N, Xx, Yy, ob, on, oc⟩
  rw [hw1] at b1
  rw [hw1, hg1] at O1
  have X1 := X.below b1
  have y0 := O1.c0
  have y2 := O1.c2
  simp only at y0 y2
  have HX := hide X
  have HX1 := hide X1
  have HO1 := hide O1
  have HB1 := hide b1
  have HSB := hide (SB.below b1)
  have HNM : Hid (i64ok N ∧ i64ok Xx ∧ made < 3518437208880 ∧ K < 9000000000000 ∧ on ≤ 140737488355328) := ⟨hN, hXx, hma, hK, hon⟩
  have HG1 : Hid (g < g1 ∧ mb < g1 ∧ r < g1 ∧ (∀ k, blk ao = some k → k < g1) ∧ ∀ x l, M x = some l → ∀ k, blk l.bo = some k → k < g1) := ⟨by have := X.P.g_lt; omega, by have := X.P.mb_lt; omega, by have := X.R.lt; omega, (fun k e => by have := X.R.row.lt k e; omega), (fun x l e k ek => by have := X.P.rlt x l e k ek; omega)⟩
  clear X X1 O1 b1 hN hXx hma hK SB hon
  go_enter Try.func7, Try.ntmps7
  have HSX : Hid (∀ W, OBox W g1 ⟨6, sec, N, Xx, Yy, ob, on, oc⟩ → W.cell? ⟨g1, 2, none⟩ = some (.int .i64 N) ∧ W.cell? ⟨g1, 3, none⟩ = some (.int .i64 Xx)) := fun W h => ⟨h.c2, h.c3⟩
  have HSd := hide (HSX.out _ (HO1.out.below (below_drew1 w1)))
  have HXd := hide (HX1.out.below (below_drewN w1 1))
  have HOd := hide (HO1.out.below (below_drewN w1 1))
  have HBd : Hid (Below w.heap.size w (w1.drewN 1)) := HB1.out.trans ((below_drewN w1 1).mono HB1.out.size)
  have HC := hide (trim_no HXd.out.P HNM.out.1 HMn.out Xx)
  go_wp2_with fail
  refine wp_region_held_drew (S := fun W => W.cell? ⟨g1, 2, none⟩ = some (.int .i64 N) ∧ W.cell? ⟨g1, 3, none⟩ = some (.int .i64 Xx)) (by kernel_rfl) (HSd.out) (fun hHeld => ?_)
  refine wpAnyH_take (i := 0) (oi := { dst := some 135, op := Op.move (Operand.tmp 0), type := 24, pos := "law.go:82", after := #[], guard := none }) (v := ?_) rfl (by kernel_rfl) (by kernel_rfl) (by kernel_rfl) (fun _ _ _ h => h) (Or.inl ⟨by rfl, ?_⟩) (by assumption) ?_
  rotate_left
  · (intro w hSw; (try dsimp only at hSw); go_simp); first | done | with_reducible rfl
  simp only [Act.put, List.setIfInBounds_toArray, List.set_cons_zero, List.set_cons_succ]
  refine wpAnyH_take (i := 1) (oi := { dst := some 136, op := Op.fieldAddr 31 (Operand.tmp 5) 2, type := 0, pos := "law.go:82", after := #[], guard := none }) (v := ?_) rfl (by kernel_rfl) (by kernel_rfl) (by kernel_rfl) (fun _ _ _ h => h) (Or.inl ⟨by rfl, ?_⟩) (by assumption) ?_
  rotate_left
  · (intro w hSw; (try dsimp only at hSw); go_simp); first | done | with_reducible rfl
  simp only [Act.put, List.setIfInBounds_toArray, List.set_cons_zero, List.set_cons_succ]
  refine wpAnyH_take (i := 2) (oi := { dst := some 137, op := Op.load 3 (Operand.tmp 136), type := 3, pos := "law.go:82", after := #[{ on := 1, ground := Ground.data }], guard := none }) (v := ?_) rfl (by kernel_rfl) (by kernel_rfl) (by kernel_rfl) (fun _ _ _ h => h) (Or.inl ⟨by rfl, ?_⟩) (by assumption) ?_
  rotate_left
  · (intro w hSw; (try dsimp only at hSw); go_simp); first | done | with_reducible rfl
  simp only [Act.put, List.setIfInBounds_toArray, List.set_cons_zero, List.set_cons_succ]
  refine wpAnyH_take (i := 3) (oi := { dst := some 138, op := Op.fieldAddr 31 (Operand.tmp 5) 3, type := 0, pos := "law.go:82", after := #[], guard := none }) (v := ?_) rfl (by kernel_rfl) (by kernel_rfl) (by kernel_rfl) (fun _ _ _ h => h) (Or.inl ⟨by rfl, ?_⟩) (by assumption) ?_
  rotate_left
  · (intro w hSw; (try dsimp only at hSw); go_simp); first | done | with_reducible rfl
  simp only [Act.put, List.setIfInBounds_toArray, List.set_cons_zero, List.set_cons_succ]
  refine wpAnyH_take (i := 4) (oi := { dst := some 139, op := Op.load 3 (Operand.tmp 138), type := 3, pos := "law.go:82", after := #[{ on := 3, ground := Ground.data }], guard := none }) (v := ?_) rfl (by kernel_rfl) (by kernel_rfl) (by kernel_rfl) (fun _ _ _ h => h) (Or.inl ⟨by rfl, ?_⟩) (by assumption) ?_
  rotate_left
  · (intro w hSw; (try dsimp only at hSw); go_simp); first | done | with_reducible rfl
  simp only [Act.put, List.setIfInBounds_toArray, List.set_cons_zero, List.set_cons_succ]
  refine wpAnyH_take (i := 6) (oi := { dst := some 141, op := Op.move (Operand.tmp 1), type := 33, pos := "law.go:82", after := #[], guard := none }) (v := ?_) rfl (by kernel_rfl) (by kernel_rfl) (by kernel_rfl) (fun _ _ _ h => h) (Or.inl ⟨by rfl, ?_⟩) (by assumption) ?_
  rotate_left
  · (intro w hSw; (try dsimp only at hSw); go_simp); first | done | with_reducible rfl
  simp only [Act.put, List.setIfInBounds_toArray, List.set_cons_zero, List.set_cons_succ]
  refine wpAnyH_take (i := 7) (oi := { dst := some 142, op := Op.fieldAddr 31 (Operand.tmp 5) 2, type := 0, pos := "law.go:82", after := #[], guard := none }) (v := ?_) rfl (by kernel_rfl) (by kernel_rfl) (by kernel_rfl) (fun _ _ _ h => h) (Or.inl ⟨by rfl, ?_⟩) (by assumption) ?_
  rotate_left
  · (intro w hSw; (try dsimp only at hSw); go_simp); first | done | with_reducible rfl
  simp only [Act.put, List.setIfInBounds_toArray, List.set_cons_zero, List.set_cons_succ]
  refine wpAnyH_take (i := 8) (oi := { dst := some 143, op := Op.load 3 (Operand.tmp 142), type := 3, pos := "law.go:82", after := #[{ on := 7, ground := Ground.data }], guard := none }) (v := ?_) rfl (by kernel_rfl) (by kernel_rfl) (by kernel_rfl) (fun _ _ _ h => h) (Or.inl ⟨by rfl, ?_⟩) (by assumption) ?_
  rotate_left
  · (intro w hSw; (try dsimp only at hSw); go_simp); first | done | with_reducible rfl
  simp only [Act.put, List.setIfInBounds_toArray, List.set_cons_zero, List.set_cons_succ]
  refine wpAnyH_take (i := 9) (oi := { dst := some 144, op := Op.fieldAddr 31 (Operand.tmp 5) 3, type := 0, pos := "law.go:82", after := #[], guard := none }) (v := ?_) rfl (by kernel_rfl) (by kernel_rfl) (by kernel_rfl) (fun _ _ _ h => h) (Or.inl ⟨by rfl, ?_⟩) (by assumption) ?_
  rotate_left
  · (intro w hSw; (try dsimp only at hSw); go_simp); first | done | with_reducible rfl
  simp only [Act.put, List.setIfInBounds_toArray, List.set_cons_zero, List.set_cons_succ]
  refine wpAnyH_take (i := 10) (oi := { dst := some 145, op := Op.load 3 (Operand.tmp 144), type := 3, pos := "law.go:82", after := #[{ on := 9, ground := Ground.data }], guard := none }) (v := ?_) rfl (by kernel_rfl) (by kernel_rfl) (by kernel_rfl) (fun _ _ _ h => h) (Or.inl ⟨by rfl, ?_⟩) (by assumption) ?_
  rotate_left
  · (intro w hSw; (try dsimp only at hSw); go_simp); first | done | with_reducible rfl
  simp only [Act.put, List.setIfInBounds_toArray, List.set_cons_zero, List.set_cons_succ]
  refine wpAnyH_ready (rs := [5]) (by kernel_rfl) (by simp) ?_
  refine AllReadyH.cons rfl (fun K hK => ?_) ?_
  rotate_left
  · exact AllReadyH.nil
  go_simp
  go_wp2_with fail
  refine HC.out.mono ?_
  rintro e w2 ⟨rfl, b2⟩
  have HX2 := hide (HXd.out.below b2)
  have HO2 := hide (HOd.out.below b2)
  have HK2 : Hid (Kx w w2 g mb r ao ao) := Kx.of_below (HBd.out.trans (b2.mono HBd.out.size))
  clear b2
  refine hK.out _ _ (HSX.out _ HO2.out) (fun hHeld => ?_)
  clear hK HC
  have HC2 := hide (rtrim_no HX2.out.R HNM.out.1 (HX2.out.und_no HMn.out) Xx)
  refine wpAnyH_ready (rs := [11]) (by kernel_rfl) (by simp) ?_
  refine AllReadyH.cons rfl (fun K hK => ?_) ?_
  rotate_left
  · exact AllReadyH.nil
  go_simp
  go_wp2_with fail
  refine HC2.out.mono ?_
  rintro e w3 ⟨rfl, b3⟩
  have HFR := hide (Fr.refl w M)
  have HX6 := hide (HX2.out.below b3)
  have HO3 := hide (HO2.out.below b3)
  have HK6 := hide (HK2.out.trans (Kx.of_below (g := g) (mb := mb) (r := r) (ao := ao) b3))
  clear b3
  refine hK.out _ _ (HSX.out _ HO3.out) (fun hHeld => ?_)
  clear hK HC2
  refine wpAnyH_take (i := 12) (oi := { dst := some 147, op := Op.binOp BinOp.eql 42 (Operand.tmp 140) (Operand.tmp 146) 42, type := 4, pos := "law.go:82", after := #[{ on := 5, ground := Ground.data }, { on := 11, ground := Ground.data }], guard := none }) (v := ?_) rfl (by kernel_rfl) (by kernel_rfl) (by kernel_rfl) (fun _ _ _ h => h) (Or.inl ⟨by rfl, ?_⟩) (by assumption) ?_
  rotate_left
  · (intro w hSw; (try dsimp only at hSw); go_simp); first | done | with_reducible rfl
  simp only [Act.put, List.setIfInBounds_toArray, List.set_cons_zero, List.set_cons_succ]
  refine wpAnyH_take (i := 13) (oi := { dst := some 6, op := Op.assign (Operand.tmp 147), type := 4, pos := "law.go:82", after := #[{ on := 12, ground := Ground.data }, { on := 11, ground := Ground.chain }, { on := 0, ground := Ground.phase }, { on := 1, ground := Ground.phase }, { on := 2, ground := Ground.phase }, { on := 3, ground := Ground.phase }, { on := 4, ground := Ground.phase }, { on := 5, ground := Ground.phase }, { on := 6, ground := Ground.phase }, { on := 7, ground := Ground.phase }, { on := 8, ground := Ground.phase }, { on := 9, ground := Ground.phase }, { on := 10, ground := Ground.phase }, { on := 11, ground := Ground.phase }, { on := 12, ground := Ground.phase }], guard := none }) (v := ?_) rfl (by kernel_rfl) (by kernel_rfl) (by kernel_rfl) (fun _ _ _ h => h) (Or.inl ⟨by rfl, ?_⟩) (by assumption) ?_
  rotate_left
  · (intro w hSw; (try dsimp only at hSw); go_simp); first | done | with_reducible rfl
  simp only [Act.put, List.setIfInBounds_toArray, List.set_cons_zero, List.set_cons_succ]
  refine wpAnyH_done (by kernel_rfl) ?_ _
  clear hHeld
  go_wp2_with fail
  go_ret
  exact ⟨rfl, _, _, _, _, _, _, _, HX6.out, HK6.out, Nat.le_succ _, by omega, HFR.out⟩
set_option maxRecDepth 100000 in
set_option maxHeartbeats 0 in
theorem plays_6a (X : PX w g mb r made K M C ao c Q) (sec : Bool) (N Xx Yy : Int) (ob : Option Addr) (on oc : Nat) (hN : i64ok N) (hXx : i64ok Xx) (hma : made < 3518437208880) (hK : K < 9000000000000) (Z : List Int) (SB : BS w ob on oc Z) (hon : on ≤ 140737488355328) {l : Ltr} (HMs : Hid (M N = some l)) (hX1 : Xx < 1) :
    Calls Try.prog 7 #[ptr g, ptr r, .agg (OC ⟨6, sec, N, Xx, Yy, ob, on, oc⟩)] w fun e w' => PlX w w' g mb r ao made K M e := by
  obtain ⟨w1, hw1⟩ : ∃ w1, w.alloc (.cells (OC ⟨6, sec, N, Xx, Yy, ob, on, oc⟩) 31) = w1 := ⟨_, rfl⟩
  obtain ⟨g1, hg1⟩ : ∃ g1, w.heap.size = g1 := ⟨_, rfl⟩
  have b1 := below_new w (.cells (OC ⟨6, sec, N, Xx, Yy, ob, on, oc⟩) 31)
  have O1 := OBox_new w ⟨6, sec, N, Xx, Yy, ob, on, oc⟩
  rw [hw1] at b1
  rw [hw1, hg1] at O1
  have X1 := X.below b1
  have y0 := O1.c0
  have y2 := O1.c2
  simp only at y0 y2
  have HX := hide X
  have HX1 := hide X1
  have HO1 := hide O1
  have HB1 := hide b1
  have HSB := hide (SB.below b1)
  have HNM : Hid (i64ok N ∧ i64ok Xx ∧ made < 3518437208880 ∧ K < 9000000000000 ∧ on ≤ 140737488355328) := ⟨hN, hXx, hma, hK, hon⟩
  have HG1 : Hid (g < g1 ∧ mb < g1 ∧ r < g1 ∧ (∀ k, blk ao = some k → k < g1) ∧ ∀ x l, M x = some l → ∀ k, blk l.bo = some k → k < g1) := ⟨by have := X.P.g_lt; omega, by have := X.P.mb_lt; omega, by have := X.R.lt; omega, (fun k e => by have := X.R.row.lt k e; omega), (fun x l e k ek => by have := X.P.rlt x l e k ek; omega)⟩
  clear X X1 O1 b1 hN hXx hma hK SB hon
  go_enter Try.func7, Try.ntmps7
  obtain ⟨f, t, o, n, cc⟩ := l
  obtain ⟨j, hj, hjm, hQ⟩ := HX.out.und_some HMs.out
  simp only at hQ
  have HJ : Hid (N = (j : Int) + 1 ∧ j < made ∧ Q.getD j d0 = ⟨f, t, strOfNums (C N), false⟩) := ⟨hj, hjm, hQ⟩
  clear hj hjm hQ
  have HSX : Hid (∀ W, OBox W g1 ⟨6, sec, N, Xx, Yy, ob, on, oc⟩ → W.cell? ⟨g1, 2, none⟩ = some (.int .i64 N) ∧ W.cell? ⟨g1, 3, none⟩ = some (.int .i64 Xx)) := fun W h => ⟨h.c2, h.c3⟩
  have HSd := hide (HSX.out _ (HO1.out.below (below_drew1 w1)))
  have HXd := hide (HX1.out.below (below_drewN w1 1))
  have HOd := hide (HO1.out.below (below_drewN w1 1))
  have HBd : Hid (Below w.heap.size w (w1.drewN 1)) := HB1.out.trans ((below_drewN w1 1).mono HB1.out.size)
  have HC := hide (trim_arg HXd.out.P HNM.out.1 HMs.out hX1)
  go_wp2_with fail
  refine wp_region_held_drew (S := fun W => W.cell? ⟨g1, 2, none⟩ = some (.int .i64 N) ∧ W.cell? ⟨g1, 3, none⟩ = some (.int .i64 Xx)) (by kernel_rfl) (HSd.out) (fun hHeld => ?_)
  refine wpAnyH_take (i := 0) (oi := { dst := some 135, op := Op.move (Operand.tmp 0), type := 24, pos := "law.go:82", after := #[], guard := none }) (v := ?_) rfl (by kernel_rfl) (by kernel_rfl) (by kernel_rfl) (fun _ _ _ h => h) (Or.inl ⟨by rfl, ?_⟩) (by assumption) ?_
  rotate_left
  · (intro w hSw; (try dsimp only at hSw); go_simp); first | done | with_reducible rfl
  simp only [Act.put, List.setIfInBounds_toArray, List.set_cons_zero, List.set_cons_succ]
  refine wpAnyH_take (i := 1) (oi := { dst := some 136, op := Op.fieldAddr 31 (Operand.tmp 5) 2, type := 0, pos := "law.go:82", after := #[], guard := none }) (v := ?_) rfl (by kernel_rfl) (by kernel_rfl) (by kernel_rfl) (fun _ _ _ h => h) (Or.inl ⟨by rfl, ?_⟩) (by assumption) ?_
  rotate_left
  · (intro w hSw; (try dsimp only at hSw); go_simp); first | done | with_reducible rfl
  simp only [Act.put, List.setIfInBounds_toArray, List.set_cons_zero, List.set_cons_succ]
  refine wpAnyH_take (i := 2) (oi := { dst := some 137, op := Op.load 3 (Operand.tmp 136), type := 3, pos := "law.go:82", after := #[{ on := 1, ground := Ground.data }], guard := none }) (v := ?_) rfl (by kernel_rfl) (by kernel_rfl) (by kernel_rfl) (fun _ _ _ h => h) (Or.inl ⟨by rfl, ?_⟩) (by assumption) ?_
  rotate_left
  · (intro w hSw; (try dsimp only at hSw); go_simp); first | done | with_reducible rfl
  simp only [Act.put, List.setIfInBounds_toArray, List.set_cons_zero, List.set_cons_succ]
  refine wpAnyH_take (i := 3) (oi := { dst := some 138, op := Op.fieldAddr 31 (Operand.tmp 5) 3, type := 0, pos := "law.go:82", after := #[], guard := none }) (v := ?_) rfl (by kernel_rfl) (by kernel_rfl) (by kernel_rfl) (fun _ _ _ h => h) (Or.inl ⟨by rfl, ?_⟩) (by assumption) ?_
  rotate_left
  · (intro w hSw; (try dsimp only at hSw); go_simp); first | done | with_reducible rfl
  simp only [Act.put, List.setIfInBounds_toArray, List.set_cons_zero, List.set_cons_succ]
  refine wpAnyH_take (i := 4) (oi := { dst := some 139, op := Op.load 3 (Operand.tmp 138), type := 3, pos := "law.go:82", after := #[{ on := 3, ground := Ground.data }], guard := none }) (v := ?_) rfl (by kernel_rfl) (by kernel_rfl) (by kernel_rfl) (fun _ _ _ h => h) (Or.inl ⟨by rfl, ?_⟩) (by assumption) ?_
  rotate_left
  · (intro w hSw; (try dsimp only at hSw); go_simp); first | done | with_reducible rfl
  simp only [Act.put, List.setIfInBounds_toArray, List.set_cons_zero, List.set_cons_succ]
  refine wpAnyH_take (i := 6) (oi := { dst := some 141, op := Op.move (Operand.tmp 1), type := 33, pos := "law.go:82", after := #[], guard := none }) (v := ?_) rfl (by kernel_rfl) (by kernel_rfl) (by kernel_rfl) (fun _ _ _ h => h) (Or.inl ⟨by rfl, ?_⟩) (by assumption) ?_
  rotate_left
  · (intro w hSw; (try dsimp only at hSw); go_simp); first | done | with_reducible rfl
  simp only [Act.put, List.setIfInBounds_toArray, List.set_cons_zero, List.set_cons_succ]
  refine wpAnyH_take (i := 7) (oi := { dst := some 142, op := Op.fieldAddr 31 (Operand.tmp 5) 2, type := 0, pos := "law.go:82", after := #[], guard := none }) (v := ?_) rfl (by kernel_rfl) (by kernel_rfl) (by kernel_rfl) (fun _ _ _ h => h) (Or.inl ⟨by rfl, ?_⟩) (by assumption) ?_
  rotate_left
  · (intro w hSw; (try dsimp only at hSw); go_simp); first | done | with_reducible rfl
  simp only [Act.put, List.setIfInBounds_toArray, List.set_cons_zero, List.set_cons_succ]
  refine wpAnyH_take (i := 8) (oi := { dst := some 143, op := Op.load 3 (Operand.tmp 142), type := 3, pos := "law.go:82", after := #[{ on := 7, ground := Ground.data }], guard := none }) (v := ?_) rfl (by kernel_rfl) (by kernel_rfl) (by kernel_rfl) (fun _ _ _ h => h) (Or.inl ⟨by rfl, ?_⟩) (by assumption) ?_
  rotate_left
  · (intro w hSw; (try dsimp only at hSw); go_simp); first | done | with_reducible rfl
  simp only [Act.put, List.setIfInBounds_toArray, List.set_cons_zero, List.set_cons_succ]
  refine wpAnyH_take (i := 9) (oi := { dst := some 144, op := Op.fieldAddr 31 (Operand.tmp 5) 3, type := 0, pos := "law.go:82", after := #[], guard := none }) (v := ?_) rfl (by kernel_rfl) (by kernel_rfl) (by kernel_rfl) (fun _ _ _ h => h) (Or.inl ⟨by rfl, ?_⟩) (by assumption) ?_
  rotate_left
  · (intro w hSw; (try dsimp only at hSw); go_simp); first | done | with_reducible rfl
  simp only [Act.put, List.setIfInBounds_toArray, List.set_cons_zero, List.set_cons_succ]
  refine wpAnyH_take (i := 10) (oi := { dst := some 145, op := Op.load 3 (Operand.tmp 144), type := 3, pos := "law.go:82", after := #[{ on := 9, ground := Ground.data }], guard := none }) (v := ?_) rfl (by kernel_rfl) (by kernel_rfl) (by kernel_rfl) (fun _ _ _ h => h) (Or.inl ⟨by rfl, ?_⟩) (by assumption) ?_
  rotate_left
  · (intro w hSw; (try dsimp only at hSw); go_simp); first | done | with_reducible rfl
  simp only [Act.put, List.setIfInBounds_toArray, List.set_cons_zero, List.set_cons_succ]
  refine wpAnyH_ready (rs := [5]) (by kernel_rfl) (by simp) ?_
  refine AllReadyH.cons rfl (fun K hK => ?_) ?_
  rotate_left
  · exact AllReadyH.nil
  go_simp
  go_wp2_with fail
  refine HC.out.mono ?_
  rintro e w2 ⟨rfl, b2⟩
  have HX2 := hide (HXd.out.below b2)
  have HO2 := hide (HOd.out.below b2)
  have HK2 : Hid (Kx w w2 g mb r ao ao) := Kx.of_below (HBd.out.trans (b2.mono HBd.out.size))
  clear b2
  refine hK.out _ _ (HSX.out _ HO2.out) (fun hHeld => ?_)
  clear hK HC
  have HC2 := hide (rtrim_arg HX2.out.R HNM.out.1 HJ.out.1 HJ.out.2.1 HJ.out.2.2 hX1)
  refine wpAnyH_ready (rs := [11]) (by kernel_rfl) (by simp) ?_
  refine AllReadyH.cons rfl (fun K hK => ?_) ?_
  rotate_left
  · exact AllReadyH.nil
  go_simp
  go_wp2_with fail
  refine HC2.out.mono ?_
  rintro e w3 ⟨rfl, b3⟩
  have HFR := hide (Fr.refl w M)
  have HX6 := hide (HX2.out.below b3)
  have HO3 := hide (HO2.out.below b3)
  have HK6 := hide (HK2.out.trans (Kx.of_below (g := g) (mb := mb) (r := r) (ao := ao) b3))
  clear b3
  refine hK.out _ _ (HSX.out _ HO3.out) (fun hHeld => ?_)
  clear hK HC2
  refine wpAnyH_take (i := 12) (oi := { dst := some 147, op := Op.binOp BinOp.eql 42 (Operand.tmp 140) (Operand.tmp 146) 42, type := 4, pos := "law.go:82", after := #[{ on := 5, ground := Ground.data }, { on := 11, ground := Ground.data }], guard := none }) (v := ?_) rfl (by kernel_rfl) (by kernel_rfl) (by kernel_rfl) (fun _ _ _ h => h) (Or.inl ⟨by rfl, ?_⟩) (by assumption) ?_
  rotate_left
  · (intro w hSw; (try dsimp only at hSw); go_simp); first | done | with_reducible rfl
  simp only [Act.put, List.setIfInBounds_toArray, List.set_cons_zero, List.set_cons_succ]
  refine wpAnyH_take (i := 13) (oi := { dst := some 6, op := Op.assign (Operand.tmp 147), type := 4, pos := "law.go:82", after := #[{ on := 12, ground := Ground.data }, { on := 11, ground := Ground.chain }, { on := 0, ground := Ground.phase }, { on := 1, ground := Ground.phase }, { on := 2, ground := Ground.phase }, { on := 3, ground := Ground.phase }, { on := 4, ground := Ground.phase }, { on := 5, ground := Ground.phase }, { on := 6, ground := Ground.phase }, { on := 7, ground := Ground.phase }, { on := 8, ground := Ground.phase }, { on := 9, ground := Ground.phase }, { on := 10, ground := Ground.phase }, { on := 11, ground := Ground.phase }, { on := 12, ground := Ground.phase }], guard := none }) (v := ?_) rfl (by kernel_rfl) (by kernel_rfl) (by kernel_rfl) (fun _ _ _ h => h) (Or.inl ⟨by rfl, ?_⟩) (by assumption) ?_
  rotate_left
  · (intro w hSw; (try dsimp only at hSw); go_simp); first | done | with_reducible rfl
  simp only [Act.put, List.setIfInBounds_toArray, List.set_cons_zero, List.set_cons_succ]
  refine wpAnyH_done (by kernel_rfl) ?_ _
  clear hHeld
  go_wp2_with fail
  go_ret
  exact ⟨rfl, _, _, _, _, _, _, _, HX6.out, HK6.out, Nat.le_succ _, by omega, HFR.out⟩
set_option maxRecDepth 100000 in
set_option maxHeartbeats 0 in
theorem plays_6c (X : PX w g mb r made K M C ao c Q) (sec : Bool) (N Xx Yy : Int) (ob : Option Addr) (on oc : Nat) (hN : i64ok N) (hXx : i64ok Xx) (hma : made < 3518437208880) (hK : K < 9000000000000) (Z : List Int) (SB : BS w ob on oc Z) (hon : on ≤ 140737488355328) {l : Ltr} (HMs : Hid (M N = some l)) (hX1 : 1 ≤ Xx) :
    Calls Try.prog 7 #[ptr g, ptr r, .agg (OC ⟨6, sec, N, Xx, Yy, ob, on, oc⟩)] w fun e w' => PlX w w' g mb r ao made K M e := by
  obtain ⟨w1, hw1⟩ : ∃ w1, w.alloc (.cells (OC ⟨6, sec, N, Xx, Yy, ob, on, oc⟩) 31) = w1 := ⟨_, rfl⟩
  obtain ⟨g1, hg1⟩ : ∃ g1, w.heap.size = g1 := ⟨_, rfl⟩
  have b1 := below_new w (.cells (OC ⟨6, sec, N, Xx, Yy, ob, on, oc⟩) 31)
  have O1 := OBox_new w ⟨6, sec, N, Xx, Yy, ob, on, oc⟩
  rw [hw1] at b1
  rw [hw1, hg1] at O1
  have X1 := X.below b1
  have y0 := O1.c0
  have y2 := O1.c2
  simp only at y0 y2
  have HX := hide X
  have HX1 := hide X1
  have HO1 := hide O1
  have HB1 := hide b1
  have HSB := hide (SB.below b1)
  have HNM : Hid (i64ok N ∧ i64ok Xx ∧ made < 3518437208880 ∧ K < 9000000000000 ∧ on ≤ 140737488355328) := ⟨hN, hXx, hma, hK, hon⟩
  have HG1 : Hid (g < g1 ∧ mb < g1 ∧ r < g1 ∧ (∀ k, blk ao = some k → k < g1) ∧ ∀ x l, M x = some l → ∀ k, blk l.bo = some k → k < g1) := ⟨by have := X.P.g_lt; omega, by have := X.P.mb_lt; omega, by have := X.R.lt; omega, (fun k e => by have := X.R.row.lt k e; omega), (fun x l e k ek => by have := X.P.rlt x l e k ek; omega)⟩
  clear X X1 O1 b1 hN hXx hma hK SB hon
  go_enter Try.func7, Try.ntmps7
  obtain ⟨f, t, o, n, cc⟩ := l
  obtain ⟨j, hj, hjm, hQ⟩ := HX.out.und_some HMs.out
  simp only at hQ
  have HJ : Hid (N = (j : Int) + 1 ∧ j < made ∧ Q.getD j d0 = ⟨f, t, strOfNums (C N), false⟩) := ⟨hj, hjm, hQ⟩
  clear hj hjm hQ
  obtain ⟨lf, hlf⟩ : ∃ lf : Nat, lf = ((n : Int) - Xx).toNat := ⟨_, rfl⟩
  have HLF := hide hlf
  have HLN : Hid ((C N).length = n ∧ n ≤ 140737488355328) := by
    have h1 := HX.out.P.row N _ HMs.out
    exact ⟨h1.bs.len, h1.big⟩
  clear hlf
  have HSX : Hid (∀ W, OBox W g1 ⟨6, sec, N, Xx, Yy, ob, on, oc⟩ → W.cell? ⟨g1, 2, none⟩ = some (.int .i64 N) ∧ W.cell? ⟨g1, 3, none⟩ = some (.int .i64 Xx)) := fun W h => ⟨h.c2, h.c3⟩
  have HSd := hide (HSX.out _ (HO1.out.below (below_drew1 w1)))
  have HXd := hide (HX1.out.below (below_drewN w1 1))
  have HOd := hide (HO1.out.below (below_drewN w1 1))
  have HBd : Hid (Below w.heap.size w (w1.drewN 1)) := HB1.out.trans ((below_drewN w1 1).mono HB1.out.size)
  have HC := hide (trim_ok HXd.out.P HNM.out.1 HMs.out (cut := Xx) hX1 (by have h9 := HNM.out.2.1; unfold i64ok at h9; omega) (by have := HNM.out; unfold maxLen; omega) lf HLF.out)
  go_wp2_with fail
  refine wp_region_held_drew (S := fun W => W.cell? ⟨g1, 2, none⟩ = some (.int .i64 N) ∧ W.cell? ⟨g1, 3, none⟩ = some (.int .i64 Xx)) (by kernel_rfl) (HSd.out) (fun hHeld => ?_)
  refine wpAnyH_take (i := 0) (oi := { dst := some 135, op := Op.move (Operand.tmp 0), type := 24, pos := "law.go:82", after := #[], guard := none }) (v := ?_) rfl (by kernel_rfl) (by kernel_rfl) (by kernel_rfl) (fun _ _ _ h => h) (Or.inl ⟨by rfl, ?_⟩) (by assumption) ?_
  rotate_left
  · (intro w hSw; (try dsimp only at hSw); go_simp); first | done | with_reducible rfl
  simp only [Act.put, List.setIfInBounds_toArray, List.set_cons_zero, List.set_cons_succ]
  refine wpAnyH_take (i := 1) (oi := { dst := some 136, op := Op.fieldAddr 31 (Operand.tmp 5) 2, type := 0, pos := "law.go:82", after := #[], guard := none }) (v := ?_) rfl (by kernel_rfl) (by kernel_rfl) (by kernel_rfl) (fun _ _ _ h => h) (Or.inl ⟨by rfl, ?_⟩) (by assumption) ?_
  rotate_left
  · (intro w hSw; (try dsimp only at hSw); go_simp); first | done | with_reducible rfl
  simp only [Act.put, List.setIfInBounds_toArray, List.set_cons_zero, List.set_cons_succ]
  refine wpAnyH_take (i := 2) (oi := { dst := some 137, op := Op.load 3 (Operand.tmp 136), type := 3, pos := "law.go:82", after := #[{ on := 1, ground := Ground.data }], guard := none }) (v := ?_) rfl (by kernel_rfl) (by kernel_rfl) (by kernel_rfl) (fun _ _ _ h => h) (Or.inl ⟨by rfl, ?_⟩) (by assumption) ?_
  rotate_left
  · (intro w hSw; (try dsimp only at hSw); go_simp); first | done | with_reducible rfl
  simp only [Act.put, List.setIfInBounds_toArray, List.set_cons_zero, List.set_cons_succ]
  refine wpAnyH_take (i := 3) (oi := { dst := some 138, op := Op.fieldAddr 31 (Operand.tmp 5) 3, type := 0, pos := "law.go:82", after := #[], guard := none }) (v := ?_) rfl (by kernel_rfl) (by kernel_rfl) (by kernel_rfl) (fun _ _ _ h => h) (Or.inl ⟨by rfl, ?_⟩) (by assumption) ?_
  rotate_left
  · (intro w hSw; (try dsimp only at hSw); go_simp); first | done | with_reducible rfl
  simp only [Act.put, List.setIfInBounds_toArray, List.set_cons_zero, List.set_cons_succ]
  refine wpAnyH_take (i := 4) (oi := { dst := some 139, op := Op.load 3 (Operand.tmp 138), type := 3, pos := "law.go:82", after := #[{ on := 3, ground := Ground.data }], guard := none }) (v := ?_) rfl (by kernel_rfl) (by kernel_rfl) (by kernel_rfl) (fun _ _ _ h => h) (Or.inl ⟨by rfl, ?_⟩) (by assumption) ?_
  rotate_left
  · (intro w hSw; (try dsimp only at hSw); go_simp); first | done | with_reducible rfl
  simp only [Act.put, List.setIfInBounds_toArray, List.set_cons_zero, List.set_cons_succ]
  refine wpAnyH_take (i := 6) (oi := { dst := some 141, op := Op.move (Operand.tmp 1), type := 33, pos := "law.go:82", after := #[], guard := none }) (v := ?_) rfl (by kernel_rfl) (by kernel_rfl) (by kernel_rfl) (fun _ _ _ h => h) (Or.inl ⟨by rfl, ?_⟩) (by assumption) ?_
  rotate_left
  · (intro w hSw; (try dsimp only at hSw); go_simp); first | done | with_reducible rfl
  simp only [Act.put, List.setIfInBounds_toArray, List.set_cons_zero, List.set_cons_succ]
  refine wpAnyH_take (i := 7) (oi := { dst := some 142, op := Op.fieldAddr 31 (Operand.tmp 5) 2, type := 0, pos := "law.go:82", after := #[], guard := none }) (v := ?_) rfl (by kernel_rfl) (by kernel_rfl) (by kernel_rfl) (fun _ _ _ h => h) (Or.inl ⟨by rfl, ?_⟩) (by assumption) ?_
  rotate_left
  · (intro w hSw; (try dsimp only at hSw); go_simp); first | done | with_reducible rfl
  simp only [Act.put, List.setIfInBounds_toArray, List.set_cons_zero, List.set_cons_succ]
  refine wpAnyH_take (i := 8) (oi := { dst := some 143, op := Op.load 3 (Operand.tmp 142), type := 3, pos := "law.go:82", after := #[{ on := 7, ground := Ground.data }], guard := none }) (v := ?_) rfl (by kernel_rfl) (by kernel_rfl) (by kernel_rfl) (fun _ _ _ h => h) (Or.inl ⟨by rfl, ?_⟩) (by assumption) ?_
  rotate_left
  · (intro w hSw; (try dsimp only at hSw); go_simp); first | done | with_reducible rfl
  simp only [Act.put, List.setIfInBounds_toArray, List.set_cons_zero, List.set_cons_succ]
  refine wpAnyH_take (i := 9) (oi := { dst := some 144, op := Op.fieldAddr 31 (Operand.tmp 5) 3, type := 0, pos := "law.go:82", after := #[], guard := none }) (v := ?_) rfl (by kernel_rfl) (by kernel_rfl) (by kernel_rfl) (fun _ _ _ h => h) (Or.inl ⟨by rfl, ?_⟩) (by assumption) ?_
  rotate_left
  · (intro w hSw; (try dsimp only at hSw); go_simp); first | done | with_reducible rfl
  simp only [Act.put, List.setIfInBounds_toArray, List.set_cons_zero, List.set_cons_succ]
  refine wpAnyH_take (i := 10) (oi := { dst := some 145, op := Op.load 3 (Operand.tmp 144), type := 3, pos := "law.go:82", after := #[{ on := 9, ground := Ground.data }], guard := none }) (v := ?_) rfl (by kernel_rfl) (by kernel_rfl) (by kernel_rfl) (fun _ _ _ h => h) (Or.inl ⟨by rfl, ?_⟩) (by assumption) ?_
  rotate_left
  · (intro w hSw; (try dsimp only at hSw); go_simp); first | done | with_reducible rfl
  simp only [Act.put, List.setIfInBounds_toArray, List.set_cons_zero, List.set_cons_succ]
  refine wpAnyH_ready (rs := [5]) (by kernel_rfl) (by simp) ?_
  refine AllReadyH.cons rfl (fun K hK => ?_) ?_
  rotate_left
  · exact AllReadyH.nil
  go_simp
  go_wp2_with fail
  refine HC.out.mono ?_
  rintro e w2 ⟨rfl, P2, F2⟩
  have HO2 := hide (HOd.out.fw F2 (by have := HG1.out; omega) (by have := HG1.out; omega))
  have HR2 := hide (HXd.out.R.fw F2 HXd.out.s1 HXd.out.s2)
  have HP2 := hide P2
  have HK2 : Hid (Kx w w2 g mb r ao ao) := (Kx.of_below HBd.out).trans (Kx.of_fw F2)
  clear P2 F2
  refine hK.out _ _ (HSX.out _ HO2.out) (fun hHeld => ?_)
  clear hK HC
  have HC2 := hide (rtrim_ok HR2.out HNM.out.1 HJ.out.1 HJ.out.2.1 HJ.out.2.2 (cut := Xx) hX1 n (by rw [strOfNums_size]; exact HLN.out.1) HLN.out.2 lf HLF.out)
  refine wpAnyH_ready (rs := [11]) (by kernel_rfl) (by simp) ?_
  refine AllReadyH.cons rfl (fun K hK => ?_) ?_
  rotate_left
  · exact AllReadyH.nil
  go_simp
  go_wp2_with fail
  refine HC2.out.mono ?_
  rintro e w3 ⟨rfl, R3, K3⟩
  rw [str_take] at R3
  have s3' : ∀ x l, mput M N ⟨f, t, o, lf, lf⟩ x = some l → ∀ k, blk l.bo = some k → k ≠ r ∧ blk ao ≠ some k := fun x l e k ek => by
    unfold mput at e
    by_cases hx : x = N
    · rw [if_pos hx] at e
      obtain rfl := Option.some.inj e
      exact HX1.out.s3 N _ HMs.out k ek
    · rw [if_neg hx] at e
      exact HX1.out.s3 x l e k ek
  have HFR := hide (Fr.put w M N ⟨f, t, o, lf, lf⟩ (fun k ek => Or.inl ⟨N, _, HMs.out, ek⟩))
  have q3 := HX1.out.q.trim j HJ.out.2.1 f t o lf
  rw [← HJ.out.1] at q3
  have HX6 : Hid (PX w3 g mb r made _ (mput M N ⟨f, t, o, lf, lf⟩) (cput C N ((C N).take lf)) ao c (Q.set j ⟨f, t, strOfNums ((C N).take lf), false⟩)) := ⟨HP2.out.kr (n := 0) (Q' := []) K3 HX1.out.s1 HX1.out.s2 s3' rfl, R3, q3, HX1.out.s1, HX1.out.s2, s3'⟩
  have HO3 : Hid (OBox w3 g1 ⟨6, sec, N, Xx, Yy, ob, on, oc⟩) := (K3.block g1 HO2.out.lt (by have h1 := HG1.out.2.2.1; omega) (fun e => by have h1 := HG1.out.2.2.2.1 g1 e.symm; omega)).trans HO2.out
  have HK6 := hide (HK2.out.trans (Kx.of_kr (g := g) (mb := mb) K3))
  clear R3 K3 s3' q3
  refine hK.out _ _ (HSX.out _ HO3.out) (fun hHeld => ?_)
  clear hK HC2
  refine wpAnyH_take (i := 12) (oi := { dst := some 147, op := Op.binOp BinOp.eql 42 (Operand.tmp 140) (Operand.tmp 146) 42, type := 4, pos := "law.go:82", after := #[{ on := 5, ground := Ground.data }, { on := 11, ground := Ground.data }], guard := none }) (v := ?_) rfl (by kernel_rfl) (by kernel_rfl) (by kernel_rfl) (fun _ _ _ h => h) (Or.inl ⟨by rfl, ?_⟩) (by assumption) ?_
  rotate_left
  · (intro w hSw; (try dsimp only at hSw); go_simp); first | done | with_reducible rfl
  simp only [Act.put, List.setIfInBounds_toArray, List.set_cons_zero, List.set_cons_succ]
  refine wpAnyH_take (i := 13) (oi := { dst := some 6, op := Op.assign (Operand.tmp 147), type := 4, pos := "law.go:82", after := #[{ on := 12, ground := Ground.data }, { on := 11, ground := Ground.chain }, { on := 0, ground := Ground.phase }, { on := 1, ground := Ground.phase }, { on := 2, ground := Ground.phase }, { on := 3, ground := Ground.phase }, { on := 4, ground := Ground.phase }, { on := 5, ground := Ground.phase }, { on := 6, ground := Ground.phase }, { on := 7, ground := Ground.phase }, { on := 8, ground := Ground.phase }, { on := 9, ground := Ground.phase }, { on := 10, ground := Ground.phase }, { on := 11, ground := Ground.phase }, { on := 12, ground := Ground.phase }], guard := none }) (v := ?_) rfl (by kernel_rfl) (by kernel_rfl) (by kernel_rfl) (fun _ _ _ h => h) (Or.inl ⟨by rfl, ?_⟩) (by assumption) ?_
  rotate_left
  · (intro w hSw; (try dsimp only at hSw); go_simp); first | done | with_reducible rfl
  simp only [Act.put, List.setIfInBounds_toArray, List.set_cons_zero, List.set_cons_succ]
  refine wpAnyH_done (by kernel_rfl) ?_ _
  clear hHeld
  go_wp2_with fail
  go_ret
  exact ⟨rfl, _, _, _, _, _, _, _, HX6.out, HK6.out, Nat.le_succ _, by omega, HFR.out⟩
set_option maxRecDepth 100000 in
set_option maxHeartbeats 0 in
theorem plays_0 (X : PX w g mb r made K M C ao c Q) {kd : Int} (h1 : ¬ kd = 1) (h2 : ¬ kd = 2) (h3 : ¬ kd = 3) (h4 : ¬ kd = 4) (h5 : ¬ kd = 5) (h6 : ¬ kd = 6) (h7 : ¬ kd = 7) (h8 : ¬ kd = 8) (sec : Bool) (N Xx Yy : Int) (ob : Option Addr) (on oc : Nat) (hN : i64ok N) (hXx : i64ok Xx) (hma : made < 3518437208880) (hK : K < 9000000000000) (Z : List Int) (SB : BS w ob on oc Z) (hon : on ≤ 140737488355328) :
    Calls Try.prog 7 #[ptr g, ptr r, .agg (OC ⟨kd, sec, N, Xx, Yy, ob, on, oc⟩)] w fun e w' => PlX w w' g mb r ao made K M e := by
  obtain ⟨w1, hw1⟩ : ∃ w1, w.alloc (.cells (OC ⟨kd, sec, N, Xx, Yy, ob, on, oc⟩) 31) = w1 := ⟨_, rfl⟩
  obtain ⟨g1, hg1⟩ : ∃ g1, w.heap.size = g1 := ⟨_, rfl⟩
  have b1 := below_new w (.cells (OC ⟨kd, sec, N, Xx, Yy, ob, on, oc⟩) 31)
  have O1 := OBox_new w ⟨kd, sec, N, Xx, Yy, ob, on, oc⟩
  rw [hw1] at b1
  rw [hw1, hg1] at O1
  have X1 := X.below b1
  have y0 := O1.c0
  have y2 := O1.c2
  simp only at y0 y2
  have HX := hide X
  have HX1 := hide X1
  have HO1 := hide O1
  have HB1 := hide b1
  have HSB := hide (SB.below b1)
  have HNM : Hid (i64ok N ∧ i64ok Xx ∧ made < 3518437208880 ∧ K < 9000000000000 ∧ on ≤ 140737488355328) := ⟨hN, hXx, hma, hK, hon⟩
  have HG1 : Hid (g < g1 ∧ mb < g1 ∧ r < g1 ∧ (∀ k, blk ao = some k → k < g1) ∧ ∀ x l, M x = some l → ∀ k, blk l.bo = some k → k < g1) := ⟨by have := X.P.g_lt; omega, by have := X.P.mb_lt; omega, by have := X.R.lt; omega, (fun k e => by have := X.R.row.lt k e; omega), (fun x l e k ek => by have := X.P.rlt x l e k ek; omega)⟩
  clear X X1 O1 b1 hN hXx hma hK SB hon
  go_enter Try.func7, Try.ntmps7
  go_wp2_with fail
  go_ret
  exact PlX.same HX.out HB1.out
set_option maxRecDepth 100000 in
set_option maxHeartbeats 0 in
theorem plays_1 (X : PX w g mb r made K M C ao c Q) (sec : Bool) (N Xx Yy : Int) (ob : Option Addr) (on oc : Nat) (hN : i64ok N) (hXx : i64ok Xx) (hma : made < 3518437208880) (hK : K < 9000000000000) (Z : List Int) (SB : BS w ob on oc Z) (hon : on ≤ 140737488355328) (SB0 : Hid (BS w ob on oc Z)) (HOB : Hid (∀ k, blk ob = some k → on ≠ 0 → k ≠ g ∧ k ≠ mb)) (HOR : Hid (∀ k, blk ob = some k → on ≠ 0 → k ≠ r ∧ blk ao ≠ some k)) :
    Calls Try.prog 7 #[ptr g, ptr r, .agg (OC ⟨1, sec, N, Xx, Yy, ob, on, oc⟩)] w fun e w' => PlX w w' g mb r ao made K M e := by
  obtain ⟨w1, hw1⟩ : ∃ w1, w.alloc (.cells (OC ⟨1, sec, N, Xx, Yy, ob, on, oc⟩) 31) = w1 := ⟨_, rfl⟩
  obtain ⟨g1, hg1⟩ : ∃ g1, w.heap.size = g1 := ⟨_, rfl⟩
  have b1 := below_new w (.cells (OC ⟨1, sec, N, Xx, Yy, ob, on, oc⟩) 31)
  have O1 := OBox_new w ⟨1, sec, N, Xx, Yy, ob, on, oc⟩
  rw [hw1] at b1
  rw [hw1, hg1] at O1
  have X1 := X.below b1
  have y0 := O1.c0
  have y2 := O1.c2
  simp only at y0 y2
  have HX := hide X
  have HX1 := hide X1
  have HO1 := hide O1
  have HB1 := hide b1
  have HSB := hide (SB.below b1)
  have HNM : Hid (i64ok N ∧ i64ok Xx ∧ made < 3518437208880 ∧ K < 9000000000000 ∧ on ≤ 140737488355328) := ⟨hN, hXx, hma, hK, hon⟩
  have HG1 : Hid (g < g1 ∧ mb < g1 ∧ r < g1 ∧ (∀ k, blk ao = some k → k < g1) ∧ ∀ x l, M x = some l → ∀ k, blk l.bo = some k → k < g1) := ⟨by have := X.P.g_lt; omega, by have := X.P.mb_lt; omega, by have := X.R.lt; omega, (fun k e => by have := X.R.row.lt k e; omega), (fun x l e k ek => by have := X.P.rlt x l e k ek; omega)⟩
  clear X X1 O1 b1 hN hXx hma hK SB hon
  go_enter Try.func7, Try.ntmps7
  have HSX : Hid (∀ W, OBox W g1 ⟨1, sec, N, Xx, Yy, ob, on, oc⟩ → BS W ob on oc Z → W.cell? ⟨g1, 3, none⟩ = some (.int .i64 Xx) ∧ W.cell? ⟨g1, 4, none⟩ = some (.int .i64 Yy) ∧ W.cell? ⟨g1, 5, none⟩ = some (.slice ob on oc) ∧ (convert 29 9 (.slice ob on oc)).run Try.prog W = .ok (.string (strOfNums Z)) W) := fun W h s => ⟨h.c3, h.c4, h.c5, s.str⟩
  have HSd := hide (HSX.out _ (HO1.out.below (below_drew1 w1)) (HSB.out.below (below_drew1 w1)))
  obtain ⟨q, hq⟩ : ∃ q, w1.heap.size = q := ⟨_, rfl⟩
  obtain ⟨wl1, hwl⟩ : ∃ wl1, w1.drew.alloc (.cells #[] 5) = wl1 := ⟨_, rfl⟩
  have Bl : BR wl1 (some ⟨q, 0, none⟩) 0 0 [] := by rw [← hwl, ← hq]; exact BR.lit w1.drew
  have bl : Below w1.heap.size w1 wl1 := by rw [← hwl]; exact (below_drew1 w1).trans (below_new w1.drew _)
  obtain ⟨b5, c5, w5, hrun, B5, A5⟩ := Bl.runs (HSB.out.below bl) (by have := HNM.out; omega) 29
  rw [Nat.zero_add] at hrun B5
  rw [List.nil_append] at B5
  have hzl : wl1.heap.size = q + 1 := by rw [← hwl, ← hq]; simp
  have bl5 : Below w1.heap.size w1 w5 := bl.trans ⟨A5.grown.os, A5.grown.tape, A5.grown.output, A5.grown.size, fun i hi => A5.grown.block i (by omega) (fun e => by have : i = q := Option.some.inj e; omega)⟩
  have HSl := hide (HSX.out _ (HO1.out.below bl) (HSB.out.below bl))
  have HS5 := hide (HSX.out _ (HO1.out.below bl5) (HSB.out.below bl5))
  have HX5 := hide (HX1.out.below bl5)
  have HO5 := hide (HO1.out.below bl5)
  have HSB5 : Hid (BS w ob on oc Z ∧ ∀ k, blk ob = some k → on = 0 ∨ k < w.heap.size) := ⟨SB0.out, fun k e => by
    cases ob with
    | none => cases e
    | some ad =>
      by_cases h0 : on = 0
      · exact Or.inl h0
      · right
        have := World.block_lt_of_cell? w _ (SB0.out.cell ad rfl 0 (by omega))
        rw [block_of_add] at this
        have e2 : ad.block = k := Option.some.inj e
        omega⟩
  have HPu := hide (put_any HX5.out.P Xx Yy b5 on c5 _ B5.bs (fun i e => by
    have h := HG1.out
    have h1 := HO1.out.lt
    rcases A5.lies with x | ⟨j, x, hj⟩
    · rw [x] at e
      have : q = i := Option.some.inj e
      omega
    · rw [x] at e
      have := Option.some.inj e
      omega) HNM.out.2.2.2.2 (by have := HNM.out; omega) (by have := HNM.out; unfold maxLen; omega))
  have HB5 := hide bl5
  clear Bl bl B5 A5 bl5 hzl
  go_wp2_with fail
  refine wp_region_held_drew (S := fun W => W.cell? ⟨g1, 3, none⟩ = some (.int .i64 Xx) ∧ W.cell? ⟨g1, 4, none⟩ = some (.int .i64 Yy) ∧ W.cell? ⟨g1, 5, none⟩ = some (.slice ob on oc) ∧ (convert 29 9 (.slice ob on oc)).run Try.prog W = .ok (.string (strOfNums Z)) W) (by kernel_rfl) (HSd.out) (fun hHeld => ?_)
  refine wpAnyH_take (i := 0) (oi := { dst := some 25, op := Op.move (Operand.tmp 0), type := 24, pos := "law.go:65", after := #[], guard := none }) (v := ?_) rfl (by kernel_rfl) (by kernel_rfl) (by kernel_rfl) (fun _ _ _ h => h) (Or.inl ⟨by rfl, ?_⟩) (by assumption) ?_
  rotate_left
  · (intro w hSw; (try dsimp only at hSw); go_simp); first | done | with_reducible rfl
  simp only [Act.put, List.setIfInBounds_toArray, List.set_cons_zero, List.set_cons_succ]
  refine wpAnyH_take (i := 1) (oi := { dst := some 26, op := Op.fieldAddr 31 (Operand.tmp 5) 3, type := 0, pos := "law.go:65", after := #[], guard := none }) (v := ?_) rfl (by kernel_rfl) (by kernel_rfl) (by kernel_rfl) (fun _ _ _ h => h) (Or.inl ⟨by rfl, ?_⟩) (by assumption) ?_
  rotate_left
  · (intro w hSw; (try dsimp only at hSw); go_simp); first | done | with_reducible rfl
  simp only [Act.put, List.setIfInBounds_toArray, List.set_cons_zero, List.set_cons_succ]
  refine wpAnyH_take (i := 2) (oi := { dst := some 27, op := Op.load 3 (Operand.tmp 26), type := 3, pos := "law.go:65", after := #[{ on := 1, ground := Ground.data }], guard := none }) (v := ?_) rfl (by kernel_rfl) (by kernel_rfl) (by kernel_rfl) (fun _ _ _ h => h) (Or.inl ⟨by rfl, ?_⟩) (by assumption) ?_
  rotate_left
  · (intro w hSw; (try dsimp only at hSw); go_simp); first | done | with_reducible rfl
  simp only [Act.put, List.setIfInBounds_toArray, List.set_cons_zero, List.set_cons_succ]
  refine wpAnyH_take (i := 3) (oi := { dst := some 28, op := Op.fieldAddr 31 (Operand.tmp 5) 4, type := 0, pos := "law.go:65", after := #[], guard := none }) (v := ?_) rfl (by kernel_rfl) (by kernel_rfl) (by kernel_rfl) (fun _ _ _ h => h) (Or.inl ⟨by rfl, ?_⟩) (by assumption) ?_
  rotate_left
  · (intro w hSw; (try dsimp only at hSw); go_simp); first | done | with_reducible rfl
  simp only [Act.put, List.setIfInBounds_toArray, List.set_cons_zero, List.set_cons_succ]
  refine wpAnyH_take (i := 4) (oi := { dst := some 29, op := Op.load 3 (Operand.tmp 28), type := 3, pos := "law.go:65", after := #[{ on := 3, ground := Ground.data }], guard := none }) (v := ?_) rfl (by kernel_rfl) (by kernel_rfl) (by kernel_rfl) (fun _ _ _ h => h) (Or.inl ⟨by rfl, ?_⟩) (by assumption) ?_
  rotate_left
  · (intro w hSw; (try dsimp only at hSw); go_simp); first | done | with_reducible rfl
  simp only [Act.put, List.setIfInBounds_toArray, List.set_cons_zero, List.set_cons_succ]
  refine wpAnyH_take (i := 6) (oi := { dst := some 31, op := Op.fieldAddr 31 (Operand.tmp 5) 5, type := 0, pos := "law.go:65", after := #[], guard := none }) (v := ?_) rfl (by kernel_rfl) (by kernel_rfl) (by kernel_rfl) (fun _ _ _ h => h) (Or.inl ⟨by rfl, ?_⟩) (by assumption) ?_
  rotate_left
  · (intro w hSw; (try dsimp only at hSw); go_simp); first | done | with_reducible rfl
  simp only [Act.put, List.setIfInBounds_toArray, List.set_cons_zero, List.set_cons_succ]
  refine wpAnyH_take (i := 7) (oi := { dst := some 32, op := Op.load 29 (Operand.tmp 31), type := 29, pos := "law.go:65", after := #[{ on := 6, ground := Ground.data }], guard := none }) (v := ?_) rfl (by kernel_rfl) (by kernel_rfl) (by kernel_rfl) (fun _ _ _ h => h) (Or.inl ⟨by rfl, ?_⟩) (by assumption) ?_
  rotate_left
  · (intro w hSw; (try dsimp only at hSw); go_simp); first | done | with_reducible rfl
  simp only [Act.put, List.setIfInBounds_toArray, List.set_cons_zero, List.set_cons_succ]
  refine wpAnyH_take (i := 11) (oi := { dst := some 36, op := Op.move (Operand.tmp 1), type := 33, pos := "law.go:65", after := #[], guard := none }) (v := ?_) rfl (by kernel_rfl) (by kernel_rfl) (by kernel_rfl) (fun _ _ _ h => h) (Or.inl ⟨by rfl, ?_⟩) (by assumption) ?_
  rotate_left
  · (intro w hSw; (try dsimp only at hSw); go_simp); first | done | with_reducible rfl
  simp only [Act.put, List.setIfInBounds_toArray, List.set_cons_zero, List.set_cons_succ]
  refine wpAnyH_take (i := 12) (oi := { dst := some 37, op := Op.fieldAddr 31 (Operand.tmp 5) 3, type := 0, pos := "law.go:65", after := #[], guard := none }) (v := ?_) rfl (by kernel_rfl) (by kernel_rfl) (by kernel_rfl) (fun _ _ _ h => h) (Or.inl ⟨by rfl, ?_⟩) (by assumption) ?_
  rotate_left
  · (intro w hSw; (try dsimp only at hSw); go_simp); first | done | with_reducible rfl
  simp only [Act.put, List.setIfInBounds_toArray, List.set_cons_zero, List.set_cons_succ]
  refine wpAnyH_take (i := 13) (oi := { dst := some 38, op := Op.load 3 (Operand.tmp 37), type := 3, pos := "law.go:65", after := #[{ on := 12, ground := Ground.data }], guard := none }) (v := ?_) rfl (by kernel_rfl) (by kernel_rfl) (by kernel_rfl) (fun _ _ _ h => h) (Or.inl ⟨by rfl, ?_⟩) (by assumption) ?_
  rotate_left
  · (intro w hSw; (try dsimp only at hSw); go_simp); first | done | with_reducible rfl
  simp only [Act.put, List.setIfInBounds_toArray, List.set_cons_zero, List.set_cons_succ]
  refine wpAnyH_take (i := 14) (oi := { dst := some 39, op := Op.fieldAddr 31 (Operand.tmp 5) 4, type := 0, pos := "law.go:65", after := #[], guard := none }) (v := ?_) rfl (by kernel_rfl) (by kernel_rfl) (by kernel_rfl) (fun _ _ _ h => h) (Or.inl ⟨by rfl, ?_⟩) (by assumption) ?_
  rotate_left
  · (intro w hSw; (try dsimp only at hSw); go_simp); first | done | with_reducible rfl
  simp only [Act.put, List.setIfInBounds_toArray, List.set_cons_zero, List.set_cons_succ]
  refine wpAnyH_take (i := 15) (oi := { dst := some 40, op := Op.load 3 (Operand.tmp 39), type := 3, pos := "law.go:65", after := #[{ on := 14, ground := Ground.data }], guard := none }) (v := ?_) rfl (by kernel_rfl) (by kernel_rfl) (by kernel_rfl) (fun _ _ _ h => h) (Or.inl ⟨by rfl, ?_⟩) (by assumption) ?_
  rotate_left
  · (intro w hSw; (try dsimp only at hSw); go_simp); first | done | with_reducible rfl
  simp only [Act.put, List.setIfInBounds_toArray, List.set_cons_zero, List.set_cons_succ]
  refine wpAnyH_take (i := 16) (oi := { dst := some 41, op := Op.fieldAddr 31 (Operand.tmp 5) 5, type := 0, pos := "law.go:65", after := #[], guard := none }) (v := ?_) rfl (by kernel_rfl) (by kernel_rfl) (by kernel_rfl) (fun _ _ _ h => h) (Or.inl ⟨by rfl, ?_⟩) (by assumption) ?_
  rotate_left
  · (intro w hSw; (try dsimp only at hSw); go_simp); first | done | with_reducible rfl
  simp only [Act.put, List.setIfInBounds_toArray, List.set_cons_zero, List.set_cons_succ]
  refine wpAnyH_take (i := 17) (oi := { dst := some 42, op := Op.load 29 (Operand.tmp 41), type := 29, pos := "law.go:65", after := #[{ on := 16, ground := Ground.data }], guard := none }) (v := ?_) rfl (by kernel_rfl) (by kernel_rfl) (by kernel_rfl) (fun _ _ _ h => h) (Or.inl ⟨by rfl, ?_⟩) (by assumption) ?_
  rotate_left
  · (intro w hSw; (try dsimp only at hSw); go_simp); first | done | with_reducible rfl
  simp only [Act.put, List.setIfInBounds_toArray, List.set_cons_zero, List.set_cons_succ]
  refine wpAnyH_take (i := 18) (oi := { dst := some 43, op := Op.convert 29 9 (Operand.tmp 42), type := 9, pos := "law.go:65", after := #[{ on := 17, ground := Ground.data }], guard := none }) (v := ?_) rfl (by kernel_rfl) (by kernel_rfl) (by kernel_rfl) (fun _ _ _ h => h) (Or.inl ⟨by rfl, ?_⟩) (by assumption) ?_
  rotate_left
  · (intro w hSw; (try dsimp only at hSw); go_simp); first | done | with_reducible rfl
  simp only [Act.put, List.setIfInBounds_toArray, List.set_cons_zero, List.set_cons_succ]
  refine wpAnyH_ready (rs := [5]) (by kernel_rfl) (by simp) ?_
  refine AllReadyH.cons rfl (fun K hK => ?_) ?_
  rotate_left
  · exact AllReadyH.nil
  go_simp
  refine hK.out _ _ HSl.out (fun hHeld => ?_)
  clear hK
  refine wpAnyH_ready (rs := [8]) (by kernel_rfl) (by simp) ?_
  refine AllReadyH.cons rfl (fun K hK => ?_) ?_
  rotate_left
  · exact AllReadyH.nil
  refine step_app rfl (.tmp 30) (.tmp 32) rfl rfl rfl hrun ?_
  simp only [Act.put, List.setIfInBounds_toArray]
  refine hK.out _ _ HS5.out (fun hHeld => ?_)
  clear hK
  refine wpAnyH_take (i := 9) (oi := { dst := some 34, op := Op.build 40 #[(0, Operand.tmp 27), (1, Operand.tmp 29), (2, Operand.tmp 33)], type := 40, pos := "law.go:65", after := #[{ on := 2, ground := Ground.data }, { on := 4, ground := Ground.data }, { on := 8, ground := Ground.data }], guard := none }) (v := ?_) rfl (by kernel_rfl) (by kernel_rfl) (by kernel_rfl) (fun _ _ _ h => h) (Or.inl ⟨by rfl, ?_⟩) (by assumption) ?_
  rotate_left
  · (intro w hSw; (try dsimp only at hSw); go_simp); first | done | with_reducible rfl
  simp only [Act.put]
  refine wpAnyH_ready (rs := [10]) (by kernel_rfl) (by simp) ?_
  refine AllReadyH.cons rfl (fun K hK => ?_) ?_
  rotate_left
  · exact AllReadyH.nil
  go_simp
  go_wp2_with fail
  refine HPu.out.mono ?_
  rintro e w2 ⟨rfl, b2', c2', P2, F2, k2⟩
  have R2 := HX5.out.R.fw F2 HX5.out.s1 HX5.out.s2
  have HO2 := hide (HO5.out.fw F2 (by have := HG1.out; omega) (by have := HG1.out; omega))
  have HC2 := hide (rput_any R2 Xx Yy (strOfNums Z) (by have := HNM.out; omega))
  have HP2 := hide P2
  have HK2 : Hid (Kx w w2 g mb r ao ao) := (Kx.of_below HB1.out).trans ((Kx.of_below HB5.out).trans (Kx.of_fw F2))
  have HS2 : Hid (∀ k, blk b2' = some k → w1.heap.size ≤ k) := fun k e => Nat.le_trans HB5.out.size (k2 k e)
  have HL1 : Hid (g1 < w1.heap.size ∧ w1.heap.size ≤ w2.heap.size) := ⟨HO1.out.lt, Nat.le_trans HB5.out.size F2.size⟩
  have SB2 : BS w2 ob on oc Z := by
    by_cases h0 : on = 0
    · subst h0
      exact ⟨HSB5.out.1.len, HSB5.out.1.nil, fun ad _ t ht => absurd ht (Nat.not_lt_zero t)⟩
    · refine HSB5.out.1.blkKeep fun k e => ?_
      have hk := (HSB5.out.2 k e).resolve_left h0
      have hne := HOB.out k e h0
      have h5 := HB1.out.size
      have h6 := HB5.out.size
      rw [F2.block k (by omega) hne.1 hne.2, HB5.out.block k (by omega), HB1.out.block k hk]
  refine hK.out _ _ (HSX.out _ HO2.out SB2) (fun hHeld => ?_)
  clear hK P2 F2 k2 R2 HPu SB2
  refine wpAnyH_ready (rs := [19]) (by kernel_rfl) (by simp) ?_
  refine AllReadyH.cons rfl (fun K hK => ?_) ?_
  rotate_left
  · exact AllReadyH.nil
  go_simp
  go_wp2_with fail
  refine HC2.out.mono ?_
  rintro e w3 ⟨rfl, bo5, c5', R5, K5⟩
  have s3' : ∀ x l, mput M ((made + 1 : Nat) : Int) ⟨Xx, Yy, b2', on, c2'⟩ x = some l → ∀ k, blk l.bo = some k → k ≠ r ∧ blk ao ≠ some k ∧ k < w2.heap.size := fun x l e k ek => by
    unfold mput at e
    by_cases hx : x = ((made + 1 : Nat) : Int)
    · have hlt := HP2.out.rlt x l (by unfold mput; exact e) k ek
      rw [if_pos hx] at e
      obtain rfl := Option.some.inj e
      have h1 := HS2.out k ek
      have h2 := HL1.out
      have h3 := HG1.out
      exact ⟨by omega, fun y => by have := h3.2.2.2.1 k y; omega, hlt⟩
    · have hlt := HP2.out.rlt x l (by unfold mput; exact e) k ek
      rw [if_neg hx] at e
      have h := HX1.out.s3 x l e k ek
      exact ⟨h.1, h.2, hlt⟩
  have HFR := hide (Fr.put w M ((made + 1 : Nat) : Int) ⟨Xx, Yy, b2', on, c2'⟩ (fun k ek => Or.inr (by have h1 := HS2.out k ek; have h2 := HB1.out.size; omega)))
  have P5 := HP2.out.kr (n := 0) (Q' := []) K5 HX1.out.s1 HX1.out.s2 (fun x l e k ek => ⟨(s3' x l e k ek).1, (s3' x l e k ek).2.1⟩) rfl
  have lies : ∀ k, blk bo5 = some k → (blk ao = some k ∨ w2.heap.size ≤ k) := fun k e => by
    rcases K5.lies with x | ⟨i, x, hi⟩
    · exact Or.inl (x ▸ e)
    · rw [x] at e
      have := Option.some.inj e
      exact Or.inr (by omega)
  have HX6 : Hid (PX w3 g mb r (made + 1) _ _ _ bo5 c5' _) := ⟨P5, R5, HX1.out.q.add Xx Yy b2' on c2' (Z), HX1.out.s1, fun k e => by
    rcases lies k e with x | x
    · exact HX1.out.s2 k x
    · have h2 := HL1.out; have h3 := HG1.out; constructor <;> omega, fun x l e k ek => ⟨(s3' x l e k ek).1, fun y => by
    rcases lies k y with z | z
    · exact (s3' x l e k ek).2.1 z
    · have := (s3' x l e k ek).2.2; omega⟩⟩
  have HK6 := hide (HK2.out.trans (Kx.of_kr (g := g) (mb := mb) K5))
  clear s3' P5 lies
  have HO3 : OBox w3 g1 ⟨1, sec, N, Xx, Yy, ob, on, oc⟩ := (K5.block g1 HO2.out.lt (by have h1 := HG1.out.2.2.1; omega) (fun e => by have h1 := HG1.out.2.2.2.1 g1 e.symm; omega)).trans HO2.out
  have SB3 : BS w3 ob on oc Z := by
    by_cases h0 : on = 0
    · subst h0
      exact ⟨HSB5.out.1.len, HSB5.out.1.nil, fun ad _ t ht => absurd ht (Nat.not_lt_zero t)⟩
    · refine HSB5.out.1.blkKeep fun k e => ?_
      have hk := (HSB5.out.2 k e).resolve_left h0
      have hne := HOB.out k e h0
      have hnr := HOR.out k e h0
      exact HK6.out.block k hk hne.1 hne.2 hnr.1 (fun x => hnr.2 x.symm)
  refine hK.out _ _ (HSX.out _ HO3 SB3) (fun hHeld => ?_)
  clear hK HC2 R5 K5 HO3 SB3
  refine wpAnyH_take (i := 20) (oi := { dst := some 45, op := Op.binOp BinOp.eql 3 (Operand.tmp 35) (Operand.tmp 44) 3, type := 4, pos := "law.go:65", after := #[{ on := 10, ground := Ground.data }, { on := 19, ground := Ground.data }], guard := none }) (v := ?_) rfl (by kernel_rfl) (by kernel_rfl) (by kernel_rfl) (fun _ _ _ h => h) (Or.inl ⟨by rfl, ?_⟩) (by assumption) ?_
  rotate_left
  · (intro w hSw; (try dsimp only at hSw); go_simp); first | done | with_reducible rfl
  simp only [Act.put, List.setIfInBounds_toArray, List.set_cons_zero, List.set_cons_succ]
  refine wpAnyH_take (i := 21) (oi := { dst := some 6, op := Op.assign (Operand.tmp 45), type := 4, pos := "law.go:65", after := #[{ on := 20, ground := Ground.data }, { on := 19, ground := Ground.chain }, { on := 0, ground := Ground.phase }, { on := 1, ground := Ground.phase }, { on := 2, ground := Ground.phase }, { on := 3, ground := Ground.phase }, { on := 4, ground := Ground.phase }, { on := 5, ground := Ground.phase }, { on := 6, ground := Ground.phase }, { on := 7, ground := Ground.phase }, { on := 8, ground := Ground.phase }, { on := 9, ground := Ground.phase }, { on := 10, ground := Ground.phase }, { on := 11, ground := Ground.phase }, { on := 12, ground := Ground.phase }, { on := 13, ground := Ground.phase }, { on := 14, ground := Ground.phase }, { on := 15, ground := Ground.phase }, { on := 16, ground := Ground.phase }, { on := 17, ground := Ground.phase }, { on := 18, ground := Ground.phase }, { on := 19, ground := Ground.phase }, { on := 20, ground := Ground.phase }], guard := none }) (v := ?_) rfl (by kernel_rfl) (by kernel_rfl) (by kernel_rfl) (fun _ _ _ h => h) (Or.inl ⟨by rfl, ?_⟩) (by assumption) ?_
  rotate_left
  · (intro w hSw; (try dsimp only at hSw); go_simp); first | done | with_reducible rfl
  simp only [Act.put, List.setIfInBounds_toArray, List.set_cons_zero, List.set_cons_succ]
  refine wpAnyH_done (by kernel_rfl) ?_ _
  clear hHeld
  go_wp2_with fail
  go_ret
  exact ⟨rfl, _, _, _, _, _, _, _, HX6.out, HK6.out, Nat.le_refl _, Nat.le_refl _, HFR.out⟩
end Go.Proofs.Ythagachlilnjpaa
