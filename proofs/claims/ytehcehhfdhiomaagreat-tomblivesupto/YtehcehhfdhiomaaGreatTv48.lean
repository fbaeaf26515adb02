/- TLi -/
import Derived.Test.YtehcehhfdhiomaaGreatTk
import Derived.Test.YtehcehhfdhiomaaGreatTv47
import Derived.Test.YtehcehhfdhiomaaGreatTv29
namespace Go.Proofs.YtehcehhfdhiomaaGreat
open Go.RowKit
attribute [local go_sem ↓] ldP_eq stP_eq ldFa_eq stFa_eq ldD_eq stD_eq K.ld28_eq K.st28_eq
attribute [local go_sem] cells_PV PC_size cells_FaV FaC_size zero_FaZ cells_RV RC_size zero_RC fold_RC K.zero_EC K.cells_EV K.EC_size K.fold_EC
set_option maxRecDepth 100000 in
set_option maxHeartbeats 3200000 in
theorem listed_any (ao : Option Addr) (n c : Nat) (L : List K.En) (e : K.En) (w : World) (hS : K.ESrc w ao n c L) :
  Calls Tryz.prog 18 #[.slice ao n c, K.EV e] w fun x w' => GivesB w w' x (e ∈ L) := by
 have b1 := below_new w (.cells (K.EC e) 48)
 have x1 := K.box_new w 48 e
 obtain ⟨wk, hwk⟩ : ∃ wk, w.alloc (.cells (K.EC e) 48) = wk := ⟨_, rfl⟩
 rw [hwk] at b1 x1
 obtain ⟨G, hG0⟩ : ∃ G, w.heap.size = G := ⟨_, rfl⟩
 rw [hG0] at x1
 have HX := hide x1
 have HBK := hide b1
 have HS := hide (hS.below b1)
 have HLn : Hid (L.length = n) := hS.1
 have hnb := hS.2.2.2.2
 clear hS b1 x1
 go_enter Tryz.func18, Tryz.ntmps18
 go_wp2_with fail
 clear hwk hG0
 go_loopw [9] (fun i wr => ∃ k : Nat, k ≤ n ∧ i = .int .i64 (k : Int) ∧ Hid (Below wk.heap.size wk wr ∧ ∀ t, t < k → L.getD t K.en0 ≠ e)) (fun i _ => n - (intOf i).toNat)
 case atStart => exact ⟨0, Nat.zero_le _, rfl, Below.refl _ _, fun t h => by omega⟩
 case round =>
  obtain ⟨k, hk, rfl, HO⟩ := hrel
  rename World => wr
  by_cases hlt : k < n
  ·have hlti : (k : Int) < (n : Int) := by omega
   obtain ⟨ad, hao, A0⟩ := (HS.out.below HO.out.1).at k hlt
   subst hao
   obtain ⟨y, Hy⟩ : ∃ y, Hid (L.getD k K.en0 = y) := ⟨_, rfl⟩
   rw [Hy.out] at A0
   have hin : y ∈ L := by rw [← Hy.out]; exact getE_mem (by rw [HLn.out]; exact hlt)
   have hld := K.run_ld28 A0
   obtain ⟨g3, hg3⟩ : ∃ g3, wr.heap.size = g3 := ⟨_, rfl⟩
   obtain ⟨w3, hst, X3, B3, -⟩ := K.made wr y g3 hg3
   have HB3 := hide (HO.out.1.trans (B3.mono HO.out.1.size))
   have Hlt := hide hlt
   have Hin := hide hin
   have HN : Hid (∀ t, t < k → L.getD t K.en0 ≠ e) := HO.out.2
   have l3 := K.run_ld28 X3.at
   have l0 := K.run_ld28 (HX.out.below HB3.out).at
   obtain ⟨q, hq⟩ : ∃ q, K.eqE y e = q := ⟨_, rfl⟩
   have leq : ∀ W : World, (Op.equalIn 10000 48 (K.EV y) (K.EV e)).run Tryz.prog W = .ok q W := fun W => by rw [← hq]; exact K.run_eq28 y e W
   have Hq := hide hq
   clear A0 X3 B3 hlt hk hin hq HO
   cases q with
   | true =>
    have HE : Hid (GivesB w w3 (.returned (.bool true)) (e ∈ L)) := ⟨true, rfl, ⟨fun _ => by have h := (eqE_iff2 _ _).1 Hq.out; rw [← h]; exact Hin.out, fun _ => rfl⟩, HBK.out.trans (HB3.out.mono HBK.out.size)⟩
    go_wp2_with fail
    go_ret
    exact HE.out
   | false =>
    have hne : y ≠ e := fun h => by have h1 := Hq.out; rw [h, K.eqE_self] at h1; cases h1
    have HN2 : Hid (∀ t, t < k + 1 → L.getD t K.en0 ≠ e) := fun t ht => by
     rcases Nat.lt_succ_iff_lt_or_eq.1 ht with h | rfl
     ·exact HN.out t h
     ·rw [Hy.out]; exact hne
    clear hne
    go_wp2_with fail
    clear hld hst hg3 l3 l0 leq
    go_roundw
    case rel => exact ⟨k + 1, Hlt.out, by have := Hlt.out; simp, HB3.out, HN2.out⟩
    case measure => simp [intOf]; have := Hlt.out; omega
  ·have hlti : ¬ (k : Int) < (n : Int) := by omega
   have HE : Hid (GivesB w wr (.returned (.bool false)) (e ∈ L)) := ⟨false, rfl, ⟨fun h => (by cases h), fun h => by
    obtain ⟨j, hj, h2⟩ := List.getElem_of_mem h
    have hl := HLn.out
    have := HO.out.2 j (by omega)
    rw [List.getD_eq_getElem?_getD, List.getElem?_eq_getElem hj] at this
    exact absurd h2 this⟩, HBK.out.trans (HO.out.1.mono HBK.out.size)⟩
   clear hk HO
   go_wp2_with fail
   go_ret
   exact HE.out
def rmB (f : Fc) (e : K.En) : Bool := inB f.p.P e || !freeB f.rs e
theorem count_free (R : List Rc) (e : K.En) : (0 < R.countP (fun r => covB r e)) ↔ freeB R e = false := by
 unfold freeB
 rw [Bool.not_eq_false', List.any_eq_true, List.countP_pos_iff]
set_option maxRecDepth 100000 in
set_option maxHeartbeats 1600000 in
theorem removes_any (f : Fc) (e : K.En) (w : World) (hF : FcOk w f) :
  Calls Tryz.prog 19 #[FaV (mkF f), K.EV e] w fun x w' => GivesB w w' x (rmB f e = true) := by
 have b1 := below_new w (.cells (FaC (mkF f)) 29)
 have X1 := FaBox_new w (mkF f)
 obtain ⟨w1, hw1⟩ : ∃ w1, w.alloc (.cells (FaC (mkF f)) 29) = w1 := ⟨_, rfl⟩
 have hs1 : w1.heap.size = w.heap.size + 1 := by rw [← hw1]; simp
 rw [hw1] at b1 X1
 have b2 := below_new w1 (.cells (K.EC e) 48)
 have x2 := K.box_new w1 48 e
 obtain ⟨w2, hw2⟩ : ∃ w2, w1.alloc (.cells (K.EC e) 48) = w2 := ⟨_, rfl⟩
 rw [hw2] at b2 x2
 rw [hs1] at x2
 obtain ⟨G, hG0⟩ : ∃ G, w.heap.size = G := ⟨_, rfl⟩
 rw [hG0] at X1 x2 hs1
 have HX := hide (X1.below b2)
 have HY := hide x2
 have HBK := hide (b1.trans (b2.mono b1.size))
 have HF := hide (hF.below HBK.out)
 clear hF b1 b2 X1 x2
 have lp := run_ldP HX.out.past
 have ldd : (ldD (.pointer (some ⟨G + 1, 0, none⟩))).run Tryz.prog w2 = .ok (RV (dotE e)) w2 := run_ldD ⟨HY.out.at.c0, HY.out.at.c1⟩
 go_enter Tryz.func19, Tryz.ntmps19
 go_wp2_with fail
 clear hw1 hw2 hs1 hG0 lp ldd
 refine (refHas_any f.p (dotE e) _ HF.out.p).mono ?_
 rintro x w3 ⟨y, rfl, hy, b3⟩
 have hyb : y = inB f.p.P e := by rw [Bool.eq_iff_iff, inB_iff]; exact hy
 have HB3 := hide (HBK.out.trans (b3.mono HBK.out.size))
 obtain ⟨-, c3⟩ := (HX.out.below b3).cs
 have le := K.run_ld28 (HY.out.below b3).at
 have HF3 := hide (HF.out.below b3)
 have Hyb := hide hyb
 clear hy b3 hyb
 cases y with
 | true =>
  have HE : Hid (GivesB w w3 (.returned (.bool true)) (rmB f e = true)) := ⟨true, rfl, ⟨fun _ => by unfold rmB; rw [← Hyb.out]; rfl, fun _ => rfl⟩, HB3.out⟩
  go_wp2_with fail
  go_ret
  exact HE.out
 | false =>
  go_wp2_with fail
  clear c3 le
  refine (refBars_any f.ro f.rn f.rc f.rs e _ HF3.out.rs).mono ?_
  rintro x w4 ⟨rfl, b4⟩
  have hcf := count_free f.rs e
  obtain ⟨m, hm⟩ : ∃ m, f.rs.countP (fun r => covB r e) = m := ⟨_, rfl⟩
  rw [hm] at hcf ⊢
  have HB4 := hide (HB3.out.trans (b4.mono HB3.out.size))
  clear b4 hm
  have HE : Hid (GivesB w w4 (.returned (.bool (!freeB f.rs e))) (rmB f e = true)) := ⟨_, rfl, by unfold rmB; rw [← Hyb.out, Bool.false_or], HB4.out⟩
  have hgt : decide ((m : Int) > 0) = !freeB f.rs e := by
   cases h : freeB f.rs e with
   | true =>
    have : ¬ 0 < m := fun q => by have := hcf.1 q; rw [h] at this; cases this
    simp; omega
   | false =>
    have := hcf.2 h
    simp; omega
  go_wp2_with fail
  go_ret
  exact HE.out
/-! ### what is live in a join -/
theorem live_iff {f : Fc} {e : K.En} : e ∈ liveL f ↔ e ∈ f.es ∧ rmB f e = false := by
 unfold liveL rmB
 rw [List.mem_filter, List.mem_filter]
 unfold pkB
 cases inB f.p.P e <;> cases freeB f.rs e <;> simp
def covP (y : Rp) (e : K.En) : Bool := (decide (y.1.size = 0) || (y.1.toList == e.sku.toList)) && inB y.2 e
theorem free_iff (R : List Rc) (e : K.En) : freeB R e = false ↔ ∃ y ∈ plR R, covP y e = true := by
 unfold freeB
 rw [Bool.not_eq_false', List.any_eq_true]
 constructor
 ·rintro ⟨r, hr, h⟩; exact ⟨rck r, List.mem_map.2 ⟨r, hr, rfl⟩, h⟩
 ·rintro ⟨y, hy, h⟩
  obtain ⟨r, hr, rfl⟩ := List.mem_map.1 hy
  exact ⟨r, hr, h⟩
theorem rm_join {a b f : Fc} (i : IsF f (fun x => x ∈ a.es ∨ x ∈ b.es) (fun r n => mem (runsAt a.p.P r) n ∨ mem (runsAt b.p.P r) n) (fun y => y ∈ plR a.rs ∨ y ∈ plR b.rs)) (e : K.En) : rmB f e = true ↔ rmB a e = true ∨ rmB b e = true := by
 have h1 : inB f.p.P e = true ↔ inB a.p.P e = true ∨ inB b.p.P e = true := by
  rw [inB_iff, inB_iff, inB_iff]
  unfold dotIn
  constructor
  ·rintro ⟨h1, h2⟩
   rcases (i.p _ (rep_lt h1).1 _).1 h2 with h | h
   ·exact .inl ⟨h1, h⟩
   ·exact .inr ⟨h1, h⟩
  ·rintro (⟨h1, h2⟩ | ⟨h1, h2⟩)
   ·exact ⟨h1, (i.p _ (rep_lt h1).1 _).2 (.inl h2)⟩
   ·exact ⟨h1, (i.p _ (rep_lt h1).1 _).2 (.inr h2)⟩
 have h2 : freeB f.rs e = false ↔ freeB a.rs e = false ∨ freeB b.rs e = false := by
  rw [free_iff, free_iff, free_iff]
  constructor
  ·rintro ⟨y, hy, h⟩
   rcases (i.rs y).1 hy with q | q
   ·exact .inl ⟨y, q, h⟩
   ·exact .inr ⟨y, q, h⟩
  ·rintro (⟨y, hy, h⟩ | ⟨y, hy, h⟩)
   ·exact ⟨y, (i.rs y).2 (.inl hy), h⟩
   ·exact ⟨y, (i.rs y).2 (.inr hy), h⟩
 unfold rmB
 simp only [Bool.or_eq_true, Bool.not_eq_true', h1, h2]
 exact ⟨fun h => h.elim (fun h => h.elim (fun h => .inl (.inl h)) (fun h => .inr (.inl h))) (fun h => h.elim (fun h => .inl (.inr h)) (fun h => .inr (.inr h))), fun h => h.elim (fun h => h.elim (fun h => .inl (.inl h)) (fun h => .inr (.inl h))) (fun h => h.elim (fun h => .inl (.inr h)) (fun h => .inr (.inr h)))⟩
theorem live_own {w1 : World} {a : Fc} (hA : FcU w1 a) : (∀ s, wt (ofS a.rs s) ≤ 8796093022207) ∧ a.rn * (a.an + 1) ≤ 8796093022207 := by
 have ha := hA.rn
 have hr : a.rs.length = a.rn := hA.ok.rs.len
 constructor
 ·intro s
  have h1 := wt_le2 (ofS a.rs s) 1048576 (fun p hp => by
   unfold ofS at hp
   obtain ⟨r, hr, rfl⟩ := List.mem_map.1 hp
   exact hA.sm.2 r (List.mem_filter.1 hr).1)
  have h2 : (ofS a.rs s).length ≤ a.rs.length := by unfold ofS; rw [List.length_map]; exact List.length_filter_le _ _
  have h3 : (ofS a.rs s).length * (1048576 + 1) ≤ 419430 * (1048576 + 1) := Nat.mul_le_mul_right _ (by omega)
  omega
 ·have h2 := hA.an
  have h4 : a.rn * (a.an + 1) ≤ 419430 * 2097153 := Nat.mul_le_mul (by omega) (by omega)
  omega
def bsRR (a : Array (Nat × Value)) : Sem Value := Instr.buildSlice 44 2 a
theorem bsRR_eq (a : Array (Nat × Value)) : Instr.buildSlice 44 2 a = bsRR a := rfl
theorem run_bsRR (a b : Option Addr) (n c m d : Nat) (w : World) : (bsRR #[(0, .slice a n c), (1, .slice b m d)]).run Tryz.prog w = .ok (.slice (some ⟨w.heap.size, 0, none⟩) 2 2) (w.alloc (.cells #[.slice a n c, .slice b m d] 22)) := by kernel_rfl
attribute [local go_sem ↓] bsRR_eq
attribute [local go_sem] run_bsRR
set_option maxRecDepth 100000 in
set_option maxHeartbeats 6400000 in
theorem tombLives_law (a b : Fc) (w : World) (hA : FcU w a) (hB : FcU w b) :
  Calls Tryz.prog 4 #[FaV (mkF a), FaV (mkF b)] w fun e w' => e = .returned (.bool true) ∧ Below w.heap.size w w' := by
 have HUA := hide hA
 have HUB := hide hB
 obtain ⟨wk, hwk, HX, HY, HBK⟩ := box2F w a b
 have HA := hide (hA.ok.below HBK.out)
 have HB := hide (hB.ok.below HBK.out)
 clear hA hB
 obtain ⟨G, hG0⟩ : ∃ G, w.heap.size = G := ⟨_, rfl⟩
 rw [hG0] at HX HY
 have HC := hide (Below.refl wk.heap.size wk)
 go_enter Tryz.func4, Tryz.ntmps4
 go_wp2_with fail
 clear hwk hG0
 refine (awake_any _).mono ?_
 rintro e w1 ⟨rfl, b1⟩
 replace HC := hide (HC.out.trans (b1.mono HC.out.size))
 clear b1
 have l0 := run_ldFa (HX.out.below HC.out)
 have l1 := run_ldFa (HY.out.below HC.out)
 go_wp2_with fail
 clear l0 l1
 refine (well_any a b _ (HA.out.below HC.out) (HB.out.below HC.out)).mono ?_
 rintro e w6 ⟨q, rfl, hq, bq⟩
 replace HC := hide (HC.out.trans (bq.mono HC.out.size))
 clear bq
 cases q with
 | false =>
  have HE := hide (HBK.out.trans (HC.out.mono HBK.out.size))
  clear hq
  go_wp2_with fail
  go_ret
  exact ⟨rfl, HE.out⟩
 | true =>
  have HW1 := hide (hq.1 rfl)
  clear hq
  have l0 := run_ldFa (HX.out.below HC.out)
  have l1 := run_ldFa (HY.out.below HC.out)
  go_wp2_with fail
  clear l0 l1
  refine (tJoin_any a b _ (HA.out.below HC.out) (HB.out.below HC.out) HUA.out.row HUB.out.row (by have := HUA.out.rn; have := HUB.out.rn; omega)).mono ?_
  rintro e w7 ⟨f, er, rfl, F0, R0, N7, b0, J0⟩
  obtain ⟨rfl, N0, I0⟩ := join_isF (HA.out.below HC.out) (HB.out.below HC.out) F0 HW1.out J0
  obtain ⟨gf, hg0⟩ : ∃ g, w7.heap.size = g := ⟨_, rfl⟩
  obtain ⟨w8, hst, X0, B0, -⟩ := madeFa w7 (mkF f) gf hg0
  replace hst : (stFa (.pointer (some ⟨gf, 0, none⟩)) (FaV (mkF f))).run Tryz.prog (w7.alloc (.cells (FaC (mkF fz0)) 29)) = .ok () w8 := hst
  have b01 := b0.trans (B0.mono b0.size)
  replace HC := hide (HC.out.trans (b01.mono HC.out.size))
  have HXf := hide X0
  have HOf := hide (F0.below B0)
  have HIf := hide I0
  have HNn := hide N0
  clear X0 B0 F0 R0 N7 b0 J0 I0 N0 b01
  have lb := run_ldFa HXf.out
  obtain ⟨hp1, hp2⟩ := live_pre HUA.out HUB.out HOf.out HIf.out HNn.out
  go_wp2_with fail
  clear lb hst hg0
  refine (tLive_any f _ HOf.out hp1 hp2).mono ?_
  rintro e w9f h9
  obtain ⟨lo, ln, lc, rfl, L9, b9, -⟩ : K.GivesEE _ w9f e (liveL f) 0 := by
   rcases h9 with ⟨-, h⟩ | ⟨h, -⟩
   ·exact h
   ·exact absurd (HIf.out.form) h
  clear h9 hp1 hp2
  replace HXf := hide (HXf.out.below b9)
  replace HOf := hide (HOf.out.below b9)
  replace HC := hide (HC.out.trans (b9.mono HC.out.size))
  have HLf := hide L9
  clear L9 b9
  have lb := run_ldFa (HX.out.below HC.out)
  obtain ⟨hp1, hp2⟩ := live_own HUA.out
  go_wp2_with fail
  clear lb
  refine (tLive_any a _ (HA.out.below HC.out) hp1 hp2).mono ?_
  rintro e w9a h9
  obtain ⟨xo, xn, xc, rfl, L9, b9, -⟩ : K.GivesEE _ w9a e (liveL a) 0 := by
   rcases h9 with ⟨-, h⟩ | ⟨h, -⟩
   ·exact h
   ·exact absurd (HW1.out.1) h
  clear h9 hp1 hp2
  replace HXf := hide (HXf.out.below b9)
  replace HOf := hide (HOf.out.below b9)
  replace HLf := hide (HLf.out.below b9)
  replace HC := hide (HC.out.trans (b9.mono HC.out.size))
  have HLa := hide L9
  clear L9 b9
  have lb := run_ldFa (HY.out.below HC.out)
  obtain ⟨hp1, hp2⟩ := live_own HUB.out
  go_wp2_with fail
  clear lb
  refine (tLive_any b _ (HB.out.below HC.out) hp1 hp2).mono ?_
  rintro e w9b h9
  obtain ⟨yo, yn, yc, rfl, L9, b9, -⟩ : K.GivesEE _ w9b e (liveL b) 0 := by
   rcases h9 with ⟨-, h⟩ | ⟨h, -⟩
   ·exact h
   ·exact absurd (HW1.out.2.1) h
  clear h9 hp1 hp2
  replace HXf := hide (HXf.out.below b9)
  replace HOf := hide (HOf.out.below b9)
  replace HLf := hide (HLf.out.below b9)
  replace HLa := hide (HLa.out.below b9)
  replace HC := hide (HC.out.trans (b9.mono HC.out.size))
  have HLb := hide L9
  clear L9 b9
  obtain ⟨c0, -⟩ := (HX.out.below HC.out).cs
  obtain ⟨d0, -⟩ := (HY.out.below HC.out).cs
  have b10 := below_new w9b (.cells #[.slice a.ao a.an a.ac, .slice b.ao b.an b.ac] 22)
  have h10 := heap_alloc_new w9b (.cells #[.slice a.ao a.an a.ac, .slice b.ao b.an b.ac] 22)
  have lb := run_bsRR a.ao b.ao a.an a.ac b.an b.ac w9b
  obtain ⟨g10, hg10⟩ : ∃ g, w9b.heap.size = g := ⟨_, rfl⟩
  obtain ⟨w10, hw10⟩ : ∃ w10, w9b.alloc (.cells #[.slice a.ao a.an a.ac, .slice b.ao b.an b.ac] 22) = w10 := ⟨_, rfl⟩
  rw [hw10] at b10 h10 lb
  rw [hg10] at h10 lb
  replace HXf := hide (HXf.out.below b10)
  replace HOf := hide (HOf.out.below b10)
  replace HLf := hide (HLf.out.below b10)
  replace HLa := hide (HLa.out.below b10)
  replace HLb := hide (HLb.out.below b10)
  replace HC := hide (HC.out.trans (b10.mono HC.out.size))
  have HR := hide h10
  clear b10 h10
  go_wp2_with fail
  clear c0 d0 lb hg10 hw10
  go_loopw [68] (fun i wr => ∃ k : Nat, k ≤ 2 ∧ i = .int .i64 (k : Int) ∧ Hid (Below w10.heap.size w10 wr)) (fun i _ => 2 - (intOf i).toNat)
  case atStart => exact ⟨0, Nat.zero_le _, rfl, Below.refl _ _⟩
  case round =>
   obtain ⟨k, hk, rfl, HBo⟩ := hrel
   rename World => wo
   by_cases hlt : k < 2
   ·have hlti : (k : Int) < 2 := by omega
    obtain ⟨so, sn, sc, X, hcell, HX0, HXm⟩ : ∃ so sn sc X, wo.cell? ⟨g10, k, none⟩ = some (.slice so sn sc) ∧ Hid (K.ESrc wo so sn sc X) ∧ Hid (∀ x ∈ X, x ∈ f.es) := by
     have hb : wo.heap[g10]? = _ := (HBo.out.block g10 (Array.getElem?_eq_some_iff.1 HR.out).1).trans HR.out
     rcases (show k = 0 ∨ k = 1 by omega) with rfl | rfl
     ·exact ⟨a.ao, a.an, a.ac, a.es, by simp [World.cell?, hb], (HA.out.below HC.out).es.below HBo.out, fun x hx => (HIf.out.es x).2 (.inl hx)⟩
     ·exact ⟨b.ao, b.an, b.ac, b.es, by simp [World.cell?, hb], (HB.out.below HC.out).es.below HBo.out, fun x hx => (HIf.out.es x).2 (.inr hx)⟩
    have hsn := HX0.out.2.2.2.2
    have HXn : Hid (X.length = sn) := HX0.out.1
    have Hlt := hide hlt
    clear hlt hk
    go_wp2_with fail
    clear hcell
    go_loopw [74] (fun i wr => ∃ j : Nat, j ≤ sn ∧ i = .int .i64 (j : Int) ∧ Hid (Below wo.heap.size wo wr)) (fun i _ => sn - (intOf i).toNat)
    case atStart => exact ⟨0, Nat.zero_le _, rfl, Below.refl _ _⟩
    case round =>
     obtain ⟨j, hj, rfl, HBr⟩ := hrel
     rename World => wr
     have HW := hide (HBo.out.trans (HBr.out.mono HBo.out.size))
     by_cases hlt : j < sn
     ·have hlti : (j : Int) < (sn : Int) := by omega
      obtain ⟨ad, hao, A0⟩ := (HX0.out.below HBr.out).at j hlt
      subst hao
      obtain ⟨e, He⟩ : ∃ e, Hid (X.getD j K.en0 = e) := ⟨_, rfl⟩
      rw [He.out] at A0
      have hin : e ∈ f.es := HXm.out e (by rw [← He.out]; exact getE_mem (by rw [HXn.out]; exact hlt))
      have hld := K.run_ld28 A0
      obtain ⟨g3, hg3⟩ : ∃ g3, wr.heap.size = g3 := ⟨_, rfl⟩
      obtain ⟨w3, hst, X3, B3, -⟩ := K.made wr e g3 hg3
      have HX3 := hide X3
      have HB3 := hide (HBr.out.trans (B3.mono HBr.out.size))
      have HW3 := hide (HW.out.trans (B3.mono HW.out.size))
      have HC3 := hide (HC.out.trans (HW3.out.mono HC.out.size))
      have Hjt := hide hlt
      have Hin := hide hin
      clear A0 X3 B3 hlt hj hin
      have HSt : Hid (∀ v : World, Below w3.heap.size w3 v → (ldFa (.pointer (some ⟨G, 0, none⟩))).run Tryz.prog v = .ok (FaV (mkF a)) v ∧ (ldFa (.pointer (some ⟨G + 1, 0, none⟩))).run Tryz.prog v = .ok (FaV (mkF b)) v ∧ (K.ld28 (.pointer (some ⟨g3, 0, none⟩))).run Tryz.prog v = .ok (K.EV e) v) := fun v h => ⟨run_ldFa ((HX.out.below HC3.out).below h), run_ldFa ((HY.out.below HC3.out).below h), K.run_ld28 (HX3.out.below h).at⟩
      go_upto_region 17 with fail
      clear hld hst hg3
      refine wp_region_held_drew (S := fun v => (ldFa (.pointer (some ⟨G, 0, none⟩))).run Tryz.prog v = .ok (FaV (mkF a)) v ∧ (ldFa (.pointer (some ⟨G + 1, 0, none⟩))).run Tryz.prog v = .ok (FaV (mkF b)) v ∧ (K.ld28 (.pointer (some ⟨g3, 0, none⟩))).run Tryz.prog v = .ok (K.EV e) v) (by kernel_rfl) (HSt.out _ (below_drew1 w3)) (fun hHeld => ?_)
      refine wTk 0 ⟨some 78, .move (.tmp 7), 22, "outright.go:106", #[], none⟩ rfl ?_
      refine wTk 1 ⟨some 79, .load 48 (.tmp 16), 48, "outright.go:106", #[], none⟩ rfl ?_
      refine wTk 3 ⟨some 81, .load 29 (.tmp 2), 29, "outright.go:106", #[], none⟩ rfl ?_
      refine wTk 4 ⟨some 82, .load 48 (.tmp 16), 48, "outright.go:106", #[], none⟩ rfl ?_
      refine wpAnyH_ready (rs := [2]) (by kernel_rfl) (by simp) (.cons rfl (fun K hK => ?_) .nil)
      go_simp
      go_wp2_with fail
      have bd := below_drew1 w3
      refine (listed_any lo ln lc (liveL f) e _ ((HLf.out.below HW3.out).below bd)).mono ?_
      rintro z wa ⟨x, rfl, hx, ba0⟩
      have ba := bd.trans (ba0.mono bd.size)
      have HSa := hide (HSt.out _ ba)
      have Ha := hide ba
      have Hx := hide hx
      refine hK.out _ _ HSa.out (fun hHeld => ?_)
      clear hK K ba0 hx ba bd
      refine wpAnyH_ready (rs := [5]) (by kernel_rfl) (by simp) (.cons rfl (fun K hK => ?_) .nil)
      go_simp
      go_wp2_with fail
      refine (removes_any a e _ ((HA.out.below HC3.out).below Ha.out)).mono ?_
      rintro z wb ⟨y, rfl, hy, bb0⟩
      have bb := Ha.out.trans (bb0.mono Ha.out.size)
      have HSb := hide (HSt.out _ bb)
      have Hb := hide bb
      have Hy := hide hy
      refine hK.out _ _ HSb.out (fun hHeld => ?_)
      clear hK K bb0 hy bb
      refine wTk 6 ⟨some 84, .move (.tmp 83), 4, "outright.go:106", #[⟨5, .data⟩, ⟨5, .chain⟩], none⟩ rfl ?_
      cases y with
      | true =>
       obtain rfl : x = false := by
        cases x with
        | false => rfl
        | true => have h := (live_iff.1 (Hx.out.1 rfl)).2; rw [(rm_join HIf.out e).2 (.inl (Hy.out.1 rfl))] at h; cases h
       refine wSk 7 ⟨some 85, .load 29 (.tmp 3), 29, "outright.go:106", #[⟨6, .guard⟩], some (6, false)⟩ rfl ?_
       refine wSk 8 ⟨some 86, .load 48 (.tmp 16), 48, "outright.go:106", #[⟨6, .guard⟩], some (6, false)⟩ rfl ?_
       refine wSk 9 ⟨some 87, .call ⟨.value (.func 19), #[.tmp 85, .tmp 86], #[29, 48]⟩, 4, "outright.go:106", #[⟨7, .data⟩, ⟨8, .data⟩, ⟨6, .chain⟩, ⟨6, .guard⟩], some (6, false)⟩ rfl ?_
       refine wTk 10 ⟨some 88, .pick (.tmp 84) (.const (.bool true)) (.tmp 87), 4, "outright.go:106", #[⟨6, .data⟩, ⟨9, .data⟩], none⟩ rfl ?_
       refine wTk 11 ⟨some 89, .binOp .eql 4 (.tmp 80) (.tmp 88) 4, 4, "outright.go:106", #[⟨2, .data⟩, ⟨10, .data⟩], none⟩ rfl ?_
       refine wpAnyH_done (by kernel_rfl) ?_ _
       clear hHeld
       have HB9 := hide (HB3.out.trans (Hb.out.mono HB3.out.size))
       go_wp2_with fail
       go_roundw
       case rel => exact ⟨j + 1, Hjt.out, by have := Hjt.out; simp, HB9.out⟩
       case measure => simp [intOf]; have := Hjt.out; omega
      | false =>
       refine wTk 7 ⟨some 85, .load 29 (.tmp 3), 29, "outright.go:106", #[⟨6, .guard⟩], some (6, false)⟩ rfl ?_
       refine wTk 8 ⟨some 86, .load 48 (.tmp 16), 48, "outright.go:106", #[⟨6, .guard⟩], some (6, false)⟩ rfl ?_
       refine wpAnyH_ready (rs := [9]) (by kernel_rfl) (by simp) (.cons rfl (fun K hK => ?_) .nil)
       go_simp
       go_wp2_with fail
       refine (removes_any b e _ ((HB.out.below HC3.out).below Hb.out)).mono ?_
       rintro z wc ⟨z, rfl, hz, bc0⟩
       have bc := Hb.out.trans (bc0.mono Hb.out.size)
       have HSc := hide (HSt.out _ bc)
       have Hc := hide bc
       have hxz : x = !z := by
        have hj := rm_join HIf.out e
        cases z with
        | true =>
         cases x with
         | false => rfl
         | true => have h := (live_iff.1 (Hx.out.1 rfl)).2; rw [hj.2 (.inr (hz.1 rfl))] at h; cases h
        | false =>
         refine Hx.out.2 (live_iff.2 ⟨Hin.out, ?_⟩)
         cases hr : rmB f e with
         | false => rfl
         | true =>
          rcases hj.1 hr with h | h
          ·have := Hy.out.2 h; cases this
          ·have := hz.2 h; cases this
       refine hK.out _ _ HSc.out (fun hHeld => ?_)
       clear hK K bc0 hz bc
       subst hxz
       refine wTk 10 ⟨some 88, .pick (.tmp 84) (.const (.bool true)) (.tmp 87), 4, "outright.go:106", #[⟨6, .data⟩, ⟨9, .data⟩], none⟩ rfl ?_
       refine wTk 11 ⟨some 89, .binOp .eql 4 (.tmp 80) (.tmp 88) 4, 4, "outright.go:106", #[⟨2, .data⟩, ⟨10, .data⟩], none⟩ rfl ?_
       refine wpAnyH_done (by kernel_rfl) ?_ _
       clear hHeld
       have hzz : ((!z) == z) = false := by cases z <;> rfl
       cases z with
       | true =>
        have HB9 := hide (HB3.out.trans (Hc.out.mono HB3.out.size))
        go_wp2_with fail
        go_roundw
        case rel => exact ⟨j + 1, Hjt.out, by have := Hjt.out; simp, HB9.out⟩
        case measure => simp [intOf]; have := Hjt.out; omega
       | false =>
        have HB9 := hide (HB3.out.trans (Hc.out.mono HB3.out.size))
        go_wp2_with fail
        go_roundw
        case rel => exact ⟨j + 1, Hjt.out, by have := Hjt.out; simp, HB9.out⟩
        case measure => simp [intOf]; have := Hjt.out; omega
     ·have hlti : ¬ (j : Int) < (sn : Int) := by omega
      clear hj
      go_wp2_with fail
      go_roundw
      case rel => exact ⟨k + 1, Hlt.out, by have := Hlt.out; simp, HW.out⟩
      case measure => simp [intOf]; have := Hlt.out; omega
   ·have hlti : ¬ (k : Int) < 2 := by omega
    clear hk
    have HC1 := hide (HC.out.trans (HBo.out.mono HC.out.size))
    have HLf1 := hide (HLf.out.below HBo.out)
    have HLa1 := hide (HLa.out.below HBo.out)
    have HLb1 := hide (HLb.out.below HBo.out)
    have hln := HLf1.out.2.2.2.2
    have Hln : Hid ((liveL f).length = ln) := HLf1.out.1
    go_wp2_with fail
    go_loopw [94] (fun i wr => ∃ j : Nat, j ≤ ln ∧ i = .int .i64 (j : Int) ∧ Hid (Below wo.heap.size wo wr)) (fun i _ => ln - (intOf i).toNat)
    case atStart => exact ⟨0, Nat.zero_le _, rfl, Below.refl _ _⟩
    case round =>
     obtain ⟨j, hj, rfl, HBr⟩ := hrel
     rename World => wr
     by_cases hlt : j < ln
     ·have hlti : (j : Int) < (ln : Int) := by omega
      obtain ⟨ad, hao, A0⟩ := (HLf1.out.below HBr.out).at j hlt
      subst hao
      obtain ⟨e, He⟩ : ∃ e, Hid ((liveL f).getD j K.en0 = e) := ⟨_, rfl⟩
      rw [He.out] at A0
      have hin : e ∈ (liveL f) := by rw [← He.out]; exact getE_mem (by rw [Hln.out]; exact hlt)
      have hld := K.run_ld28 A0
      obtain ⟨g3, hg3⟩ : ∃ g3, wr.heap.size = g3 := ⟨_, rfl⟩
      obtain ⟨w3, hst, X3, B3, -⟩ := K.made wr e g3 hg3
      have HX3 := hide X3
      have HB3 := hide (HBr.out.trans (B3.mono HBr.out.size))
      have Hjt := hide hlt
      have Hin := hide hin
      have l3 := K.run_ld28 X3.at
      clear A0 X3 B3 hlt hj hin
      go_wp2_with fail
      clear hld hst hg3 l3
      refine (listed_any xo xn xc (liveL a) e _ (HLa1.out.below HB3.out)).mono ?_
      rintro z w4 ⟨x, rfl, hx, b4⟩
      have HB4 := hide (HB3.out.trans (b4.mono HB3.out.size))
      have l4 := K.run_ld28 (HX3.out.below b4).at
      clear b4
      cases x with
      | true =>
       clear hx l4
       go_wp2_with fail
       go_roundw
       case rel => exact ⟨j + 1, Hjt.out, by have := Hjt.out; simp, HB4.out⟩
       case measure => simp [intOf]; have := Hjt.out; omega
      | false =>
       have Hx : Hid (¬ e ∈ liveL a) := fun h => by have := hx.2 h; cases this
       clear hx
       go_wp2_with fail
       clear l4
       refine (listed_any yo yn yc (liveL b) e _ (HLb1.out.below HB4.out)).mono ?_
       rintro z w5 ⟨x, rfl, hx, b5⟩
       have HB5 := hide (HB4.out.trans (b5.mono HB4.out.size))
       obtain rfl : x = true := by
        refine hx.2 ?_
        obtain ⟨h1, h2⟩ := live_iff.1 Hin.out
        have hj := rm_join HIf.out e
        have ha : rmB a e = false := by
         cases h : rmB a e with
         | false => rfl
         | true => rw [hj.2 (.inl h)] at h2; cases h2
        have hb : rmB b e = false := by
         cases h : rmB b e with
         | false => rfl
         | true => rw [hj.2 (.inr h)] at h2; cases h2
        rcases (HIf.out.es e).1 h1 with h | h
        ·exact absurd (live_iff.2 ⟨h, ha⟩) Hx.out
        ·exact live_iff.2 ⟨h, hb⟩
       clear hx b5
       go_wp2_with fail
       go_roundw
       case rel => exact ⟨j + 1, Hjt.out, by have := Hjt.out; simp, HB5.out⟩
       case measure => simp [intOf]; have := Hjt.out; omega
     ·have hlti : ¬ (j : Int) < (ln : Int) := by omega
      clear hj
      have HC2 := hide (HC1.out.trans (HBr.out.mono HC1.out.size))
      have HLf2 := hide (HLf1.out.below HBr.out)
      have HLa2 := hide (HLa1.out.below HBr.out)
      obtain ⟨zo, zn, zc, c0, HA2⟩ : ∃ zo zn zc, wr.cell? ⟨G, 0, none⟩ = some (.slice zo zn zc) ∧ Hid (K.ESrc wr zo zn zc a.es) := ⟨a.ao, a.an, a.ac, (HX.out.below HC2.out).cs.1, (HA.out.below HC2.out).es⟩
      have han := HA2.out.2.2.2.2
      have Han : Hid (a.es.length = zn) := HA2.out.1
      go_wp2_with fail
      clear c0
      go_loopw [112] (fun i wq => ∃ j : Nat, j ≤ zn ∧ i = .int .i64 (j : Int) ∧ Hid (Below wr.heap.size wr wq)) (fun i _ => zn - (intOf i).toNat)
      case atStart => exact ⟨0, Nat.zero_le _, rfl, Below.refl _ _⟩
      case round =>
       obtain ⟨j, hj, rfl, HBq⟩ := hrel
       rename World => wq
       by_cases hlt : j < zn
       ·have hlti : (j : Int) < (zn : Int) := by omega
        obtain ⟨ad, hao, A0⟩ := (HA2.out.below HBq.out).at j hlt
        subst hao
        obtain ⟨e, He⟩ : ∃ e, Hid (a.es.getD j K.en0 = e) := ⟨_, rfl⟩
        rw [He.out] at A0
        have hin : e ∈ a.es := by rw [← He.out]; exact getE_mem (by rw [Han.out]; exact hlt)
        have hld := K.run_ld28 A0
        obtain ⟨g3, hg3⟩ : ∃ g3, wq.heap.size = g3 := ⟨_, rfl⟩
        obtain ⟨w3, hst, X3, B3, -⟩ := K.made wq e g3 hg3
        have HX3 := hide X3
        have HB3 := hide (HBq.out.trans (B3.mono HBq.out.size))
        have Hjt := hide hlt
        have Hin := hide hin
        have l3 := K.run_ld28 X3.at
        clear A0 X3 B3 hlt hj hin
        go_wp2_with fail
        clear hld hst hg3 l3
        refine (listed_any xo xn xc (liveL a) e _ (HLa2.out.below HB3.out)).mono ?_
        rintro z w4 ⟨x, rfl, hx, b4⟩
        have HB4 := hide (HB3.out.trans (b4.mono HB3.out.size))
        have l4 := K.run_ld28 (HX3.out.below b4).at
        clear b4
        cases x with
        | true =>
         clear hx l4
         go_wp2_with fail
         go_roundw
         case rel => exact ⟨j + 1, Hjt.out, by have := Hjt.out; simp, HB4.out⟩
         case measure => simp [intOf]; have := Hjt.out; omega
        | false =>
         have Hx : Hid (¬ e ∈ liveL a) := fun h => by have := hx.2 h; cases this
         clear hx
         go_wp2_with fail
         clear l4
         refine (listed_any lo ln lc (liveL f) e _ (HLf2.out.below HB4.out)).mono ?_
         rintro z w5 ⟨x, rfl, hx, b5⟩
         have HB5 := hide (HB4.out.trans (b5.mono HB4.out.size))
         obtain rfl : x = false := by
          cases x with
          | false => rfl
          | true =>
           obtain ⟨h1, h2⟩ := live_iff.1 (hx.1 rfl)
           refine absurd (live_iff.2 ⟨Hin.out, ?_⟩) Hx.out
           cases h : rmB a e with
           | false => rfl
           | true => rw [(rm_join HIf.out e).2 (.inl h)] at h2; cases h2
         clear hx b5
         go_wp2_with fail
         go_roundw
         case rel => exact ⟨j + 1, Hjt.out, by have := Hjt.out; simp, HB5.out⟩
         case measure => simp [intOf]; have := Hjt.out; omega
       ·have hlti : ¬ (j : Int) < (zn : Int) := by omega
        clear hj
        have HC4 := hide (HC2.out.trans (HBq.out.mono HC2.out.size))
        have hck : K.chk (liveL f) = 0 := chk_filter (chk_filter HIf.out.chk _) _
        go_wp2_with fail
        refine (K.refCheckL_any lo ln lc (liveL f) _ (HLf2.out.below HBq.out)).mono ?_
        rintro z w5 ⟨rfl, b5⟩
        rw [hck]
        have HE := hide (HBK.out.trans ((HC4.out.trans (b5.mono HC4.out.size)).mono HBK.out.size))
        clear b5 hck
        go_wp2_with fail
        go_ret
        exact ⟨rfl, HE.out⟩
theorem tombLives_u (a b : Fc) (w : World) (hA : FcU w a) (hB : FcU w b) :
  Calls Tryz.prog 4 #[FaV (mkF a), FaV (mkF b)] w fun e w' => e = .returned (.bool true) ∧ Below w.heap.size w w' := tombLives_law a b w hA hB
end Go.Proofs.YtehcehhfdhiomaaGreat
