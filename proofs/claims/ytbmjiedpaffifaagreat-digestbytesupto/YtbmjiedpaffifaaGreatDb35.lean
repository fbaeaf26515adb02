/- QRz QRw ZCk -/
import Derived.Test.YtbmjiedpaffifaaGreatDb34
import Derived.Test.YtbmjiedpaffifaaGreatDb29
import Derived.Test.YtbmjiedpaffifaaGreatDb31
import Derived.Test.YtbmjiedpaffifaaGreatDb16
import Derived.Test.YtbmjiedpaffifaaGreatDb04
import Derived.Test.YtbmjiedpaffifaaGreatDb15
namespace Go.Proofs.YtbmjiedpaffifaaGreat
open Go.RowKit
attribute [local go_sem ↓] ldP_eq stP_eq ldJ_eq stJ_eq
attribute [local go_sem] zeros_JA cells_JAv zero_PC cells_PV fold_PC PC_size fold_PC1
def szn (N : Nat → List Rn) : Nat → Int
  | 0 => 0
  | k + 1 => szn N k + sz (N k)
theorem szn_bd {N : Nat → List Rn} : ∀ k, (∀ r, r < k → form 1 (N r)) → 0 ≤ szn N k ∧ szn N k ≤ k * 1000000000
  | 0, _ => by simp [szn]
  | k + 1, h => by
    have h1 := szn_bd k (fun r hr => h r (by omega))
    have h2 := sz_top (h k (by omega))
    simp only [szn]
    omega
theorem szn_zero {N : Nat → List Rn} : ∀ k, (∀ r, r < k → form 1 (N r)) → (szn N k = 0 ↔ ∀ r, r < k → N r = [])
  | 0, _ => by simp [szn]
  | k + 1, h => by
    have h1 := szn_bd k (fun r hr => h r (by omega))
    have h2 := sz_top (h k (by omega))
    have h3 := sz_bd (h k (by omega))
    have ih := szn_zero k (fun r hr => h r (by omega))
    simp only [szn]
    constructor
    · intro g r hr
      by_cases e : r = k
      · subst e; exact h3.2.2 (by omega)
      · exact ih.1 (by omega) r (by omega)
    · intro g
      rw [ih.2 (fun r hr => g r (by omega)), g k (by omega)]
      rfl
theorem sz_next (R : List Rn) (t : Nat) (h : t < R.length) : sz (R.take (t + 1)) = sz (R.take t) + ((R.getD t rn0).hi - (R.getD t rn0).lo + 1) := by
  rw [rn_take R t h, sz_append, sz_cons]
  simp [sz]
set_option maxRecDepth 100000 in
set_option maxHeartbeats 1000000 in
theorem refSize_any (a : Pv) (w : World) (hS : PSrc w a) : Calls Tryz.prog 69 #[PV a] w fun e w' => ∃ N : Nat → List Rn, (∀ r, r < 16 → NormOf (runsAt a.P r) (N r)) ∧ e = .returned (.int .i64 (szn N 16)) ∧ Below w.heap.size w w' := by
  have b1 := below_new w (.cells (PC a) 25)
  have HX := hide (pbox_new w a)
  have HBK := hide b1
  have HS := hide (hS.below b1)
  clear b1 hS
  have l1 := run_ldP HX.out.at
  go_enter Tryz.func69, Tryz.ntmps69
  go_wp2_with fail
  refine (one_any a _ HS.out).mono ?_
  rintro e w2 ⟨T, N, rfl, hT, b4⟩
  have HT := hide hT
  have HB4 := hide (HBK.out.trans (b4.mono HBK.out.size))
  have b5 := below_new w2 (.cells (JA fun _ => si0) 120)
  have hst := run_stJ (F' := T) (isets_new w2 120 (fun _ => si0))
  have HZ := hide (ISets.setRow (F' := T) (isets_new w2 120 (fun _ => si0)))
  have HB6 : Hid (Below w2.heap.size w2 ((w2.alloc (.cells (JA fun _ => si0) 120)).setRow w2.heap.size (JA T))) := below_setRow b5 (Nat.le_refl _)
  clear hT b4 b5 l1
  go_wp2_with fail
  clear hst
  obtain ⟨w5, hw5⟩ : ∃ w5, (w2.alloc (.cells (JA fun _ => si0) 120)).setRow w2.heap.size (JA T) = w5 := ⟨_, rfl⟩
  rw [hw5] at HZ HB6 ⊢
  clear hw5
  go_loopw [4, 5] (fun vn vr wr => ∃ (y : Nat) (z : Int), y ≤ 16 ∧ vn = .int .i64 z ∧ vr = .int .i64 y ∧ Hid (z = szn N y ∧ Below w5.heap.size w5 wr)) (fun _ i _ => 16 - (intOf i).toNat)
  case atStart => exact ⟨0, 0, Nat.zero_le _, rfl, rfl, rfl, Below.refl _ _⟩
  case round =>
    obtain ⟨y, z, hy16, rfl, rfl, HI⟩ := hrel
    rename World => w6
    have y0 : (0 : Int) ≤ (y : Int) := by omega
    by_cases hy : y < 16
    · have y1 : (y : Int) < 16 := by omega
      have HF := hide (HT.out y hy).2.2.1
      have HSR := hide ((HT.out y hy).1.below HB6.out)
      obtain ⟨sa, sn, sc, hf⟩ : ∃ sa sn sc, (T y).ao = sa ∧ (T y).n = sn ∧ (T y).cap = sc := ⟨_, _, _, rfl, rfl, rfl⟩
      rw [hf.1, hf.2.1, hf.2.2] at HSR
      have HTY := hide hf
      clear hf
      have HSN : Hid (sn = 2 * (N y).length) := by have := HSR.out.1; rw [tn_length] at this; show _ = _; omega
      have hsmall := form_small (Int.le_refl _) HF.out
      have hsb : sn ≤ 1000000002 := by have := HSN.out; omega
      have HSB := hide (And.intro (szn_bd (N := N) y (fun r hr => (HT.out r (by omega)).2.2.1)) (sz_top HF.out))
      go_wp2_with fail
      go_loopw [4, 6] (fun vn vk wr => ∃ (t kk : Nat) (z : Int), t ≤ (N y).length ∧ kk = 2 * t ∧ vn = .int .i64 z ∧ vk = .int .i64 kk ∧ Hid (z = szn N y + sz ((N y).take t) ∧ Below w5.heap.size w5 wr)) (fun _ i _ => sn - (intOf i).toNat)
      case atStart => exact ⟨0, 0, z, Nat.zero_le _, rfl, rfl, rfl, by rw [HI.out.1]; simp [sz], HI.out.2⟩
      case round =>
        obtain ⟨t, kk, z, ht, hkk, rfl, rfl, HI⟩ := hrel
        rename World => w6
        have HKK := hide hkk
        clear hkk
        have c0 := (HZ.out.below HI.out.2).cell y hy
        rw [HTY.out.1, HTY.out.2.1, HTY.out.2.2] at c0
        obtain ⟨k1, hk1e⟩ : ∃ k1 : Nat, kk + 1 = k1 := ⟨_, rfl⟩
        have hkw : IntKind.i64.wrap ((kk : Int) + 1) = (k1 : Int) := by have := HKK.out; rw [IntKind.wrap_i64]; omega
        by_cases hlt : t < (N y).length
        · have hk1 : k1 < sn := by have := HKK.out; have := HSN.out; omega
          have hk0 : kk < sn := by omega
          obtain ⟨da, hda, qa⟩ := isrc_at (HSR.out.below HI.out.2) kk hk0
          obtain ⟨db, hdb, qb⟩ := isrc_at (HSR.out.below HI.out.2) k1 hk1
          have hdd : db = da := Option.some.inj (hdb.symm.trans hda)
          rw [hdd] at qb
          clear hdb hdd
          subst hda
          obtain ⟨tl1, tl2⟩ := tn_lo (N y) t hlt
          rw [← HKK.out] at tl1 tl2
          rw [hk1e] at tl2
          rw [tl1] at qa
          rw [tl2] at qb
          have hfg := form_gt HF.out t hlt
          have hnx := sz_next (N y) t hlt
          have htk := sz_take (N y) 1 t HF.out
          have htk2 := sz_take (N y) 1 (t + 1) HF.out
          obtain ⟨x, Hx⟩ : ∃ x, Hid ((N y).getD t rn0 = x) := ⟨_, rfl⟩
          rw [Hx.out] at qa qb hfg hnx
          obtain ⟨lo, hlo⟩ : ∃ lo, x.lo = lo := ⟨_, rfl⟩
          obtain ⟨h1, hh1⟩ : ∃ h1, x.hi + 1 = h1 := ⟨_, rfl⟩
          rw [hlo] at qa
          rw [hh1] at qb
          have hzb : 0 ≤ z ∧ z ≤ 17000000000 ∧ 1 ≤ lo ∧ lo < h1 ∧ h1 ≤ 1000000001 := by have := HSB.out; have := HI.out.1; omega
          have HZN : Hid (z + (h1 - lo) = szn N y + sz ((N y).take (t + 1))) := by show _ = _; have := HI.out.1; omega
          have HIB := hide HI.out.2
          clear hlo hh1 db tl1 tl2 hfg hnx htk htk2 HI Hx
          obtain ⟨hz0, hz1, hl0, hl1, hh2⟩ := hzb
          have hw1 : IntKind.i64.wrap (h1 - lo) = h1 - lo := by rw [IntKind.wrap_i64]; omega
          have hw2 : IntKind.i64.wrap (z + (h1 - lo)) = z + (h1 - lo) := by rw [IntKind.wrap_i64]; omega
          have r0 := cell_regrown c0
          have r1 := cell_regrown qa
          have r2 := cell_regrown qb
          have HK1 := hide hk1e
          clear hk1e
          go_wp2_with fail
          refine wp_region_quiet_below (by kernel_rfl) (by kernel_rfl) ?_
          repeat (with_reducible (refine wpQuiet_step ?_); intro K hK; go_simp; (try rw [if_neg (by unfold undef; simp)]); first | (with_reducible (refine hK _ ?_); clear hK K) | (apply Exists.intro; refine ⟨fun _ => ?_, hK _ ?_⟩; (fail); clear hK K))
          with_reducible (refine wpQuiet_nil ?_)
          intro w7 hw'
          obtain ⟨⟨dq, osq⟩, hw''⟩ := hw'
          have bw7 : Below w6.heap.size w6 w7 := by rw [hw'']; exact below_regrown w6 dq osq
          clear hw'' dq osq r0 r1 r2
          go_wp2_with fail
          go_roundw
          case rel => exact ⟨t + 1, kk + 2, z + (h1 - lo), by omega, by have := HKK.out; omega, by go_num, by go_num, HZN.out, HIB.out.trans (bw7.mono HIB.out.size)⟩
          case measure => (have := HK1.out; simp [intOf]; omega)
        · obtain rfl : t = (N y).length := by omega
          have hk1 : ¬ (k1 : Int) < (sn : Int) := by have := HKK.out; have := HSN.out; omega
          have HN2 : Hid (z = szn N (y + 1)) := by have := HI.out.1; rw [List.take_length] at this; exact this
          have HIB := hide HI.out.2
          clear hk1e HI
          go_wp2_with fail
          go_roundw
          case rel => exact ⟨y + 1, z, by omega, rfl, by go_num, HN2.out, HIB.out⟩
          case measure => simp [intOf]; omega
    · obtain rfl : y = 16 := by omega
      have HFin : Hid (∃ M : Nat → List Rn, (∀ r, r < 16 → NormOf (runsAt a.P r) (M r)) ∧ (Ending.returned (.int .i64 z) : Ending) = .returned (.int .i64 (szn M 16)) ∧ Below w.heap.size w w6) := ⟨N, fun r hr => (HT.out r hr).2.2, by rw [HI.out.1], HB4.out.trans ((HB6.out.trans (HI.out.2.mono HB6.out.size)).mono HB4.out.size)⟩
      clear HI
      go_wp2_with fail
      go_ret
      exact HFin.out
end Go.Proofs.YtbmjiedpaffifaaGreat
namespace Go.Proofs.YtbmjiedpaffifaaGreat
open Go.RowKit
attribute [local go_sem ↓] ldP_eq stP_eq ldJ_eq stJ_eq
attribute [local go_sem] zeros_JA cells_JAv zero_PC cells_PV fold_PC PC_size fold_PC1
theorem szn_sumZ (N : Nat → List Rn) : ∀ k, szn N k = sumZ N k
  | 0 => rfl
  | k + 1 => by simp only [szn, sumZ, szn_sumZ N k]
set_option maxRecDepth 100000 in
theorem refEmpty_any (a : Pv) (w : World) (hS : PSrc w a) : Calls Tryz.prog 52 #[PV a] w fun e w' => ∃ b, e = .returned (.bool b) ∧ (b = true ↔ ∀ r, r < 16 → ∀ n, ¬ mem (runsAt a.P r) n) ∧ Below w.heap.size w w' := by
  have b1 := below_new w (.cells (PC a) 25)
  have l1 := run_ldP (pbox_new w a).at
  have HBK := hide b1
  have HS := hide (hS.below b1)
  clear b1 hS
  go_enter Tryz.func52, Tryz.ntmps52
  go_wp2_with fail
  refine (refSize_any a _ HS.out).mono ?_
  rintro e w2 ⟨N, hN, rfl, b2⟩
  have hz : SizeP (runsAt a.P) (szn N 16) := ⟨N, hN, szn_sumZ N 16⟩
  have HFin : Hid (∃ b, (Ending.returned (.bool (szn N 16 == 0)) : Ending) = .returned (.bool b) ∧ (b = true ↔ ∀ r, r < 16 → ∀ n, ¬ mem (runsAt a.P r) n) ∧ Below w.heap.size w w2) := ⟨_, rfl, by rw [← hz.zero]; simp, HBK.out.trans (b2.mono HBK.out.size)⟩
  clear hz hN b2 l1
  generalize szn N 16 = z at *
  go_wp2_with fail
  go_ret
  exact HFin.out
set_option maxRecDepth 100000 in
theorem refWithin_any (a b : Pv) (w : World) (hA : PSrc w a) (hB : PSrc w b) : Calls Tryz.prog 28 #[PV a, PV b] w fun e w' => ∃ x, e = .returned (.bool x) ∧ (x = true ↔ ∀ r, r < 16 → ∀ n, mem (runsAt a.P r) n → mem (runsAt b.P r) n) ∧ Below w.heap.size w w' := by
  have b1 := below_new w (.cells (PC a) 25)
  have b2 := below_new (w.alloc (.cells (PC a) 25)) (.cells (PC b) 25)
  have p2 := pbox_new (w.alloc (.cells (PC a) 25)) b
  simp only [World.size_alloc] at p2
  have l1 := run_ldP ((pbox_new w a).below b2).at
  have l2 := run_ldP p2.at
  have HBK := hide (b1.trans (b2.mono b1.size))
  have HA := hide (hA.below HBK.out)
  have HB := hide (hB.below HBK.out)
  clear hA hB b1 b2 p2
  go_enter Tryz.func28, Tryz.ntmps28
  go_wp2_with fail
  refine (refMinus_any a b _ HA.out HB.out).mono ?_
  rintro e w3 ⟨p, rfl, S3, n3, b3, C, hC, c3⟩
  have HS3 := hide S3
  have HB3 := hide (HBK.out.trans (b3.mono HBK.out.size))
  have HC := hide (And.intro hC c3)
  clear S3 n3 b3 hC c3 l1 l2
  go_wp2_with fail
  refine (refEmpty_any p _ HS3.out).mono ?_
  rintro e w4 ⟨x, rfl, hx, b4⟩
  have HFin : Hid (∃ y, (Ending.returned (.bool x) : Ending) = .returned (.bool y) ∧ (y = true ↔ ∀ r, r < 16 → ∀ n, mem (runsAt a.P r) n → mem (runsAt b.P r) n) ∧ Below w.heap.size w w4) := by
    refine ⟨x, rfl, ?_, HB3.out.trans (b4.mono HB3.out.size)⟩
    rw [hx]
    have key : ∀ r, r < 16 → ∀ n, (mem (runsAt p.P r) n ↔ mem (runsAt a.P r) n ∧ ¬ mem (runsAt b.P r) n) := fun r hr n => (canon_mem HC.out.2 r hr n).trans ((HC.out.1 r hr).2 n)
    constructor
    · intro h r hr n hm
      by_cases hb : mem (runsAt b.P r) n
      · exact hb
      · exact absurd ((key r hr n).2 ⟨hm, hb⟩) (h r hr n)
    · intro h r hr n hm
      obtain ⟨h1, h2⟩ := (key r hr n).1 hm
      exact h2 (h r hr n h1)
  clear hx b4
  go_wp2_with fail
  go_ret
  exact HFin.out
end Go.Proofs.YtbmjiedpaffifaaGreat
namespace Go.Proofs.YtbmjiedpaffifaaGreat
open Go.RowKit
attribute [local go_sem ↓] ldP_eq stP_eq ldDi_eq stDi_eq
attribute [local go_sem] cells_PV PC_size cells_DiV DiC_size
variable {w w' w2 W W' : World} {g : Nat}

/-- a digest -/
structure Dg where
  h : Pv
  l : Pv
def mkD (d : Dg) : DigV := ⟨d.h.vo, d.h.vn, d.h.vc, d.h.co, d.h.cn, d.h.cc, d.l.vo, d.l.vn, d.l.vc, d.l.co, d.l.cn, d.l.cc⟩
def DgOk (w : World) (d : Dg) : Prop := PSrc w d.h ∧ PSrc w d.l
theorem DgOk.below {d : Dg} (h : DgOk w d) (b : Below w.heap.size w w') : DgOk w' d := ⟨h.1.below b, h.2.below b⟩
theorem DiBox.heard {d : Dg} (h : DiBox w g (mkD d)) : PAt w ⟨g, 0, none⟩ d.h := ⟨h.c0, by rw [Addr.add_lit]; exact h.c1⟩
theorem DiBox.live {d : Dg} (h : DiBox w g (mkD d)) : PAt w ⟨g, 2, none⟩ d.l := ⟨h.c2, by rw [Addr.add_lit]; exact h.c3⟩
def InP (a b : Pst) : Prop := ∀ r, r < 16 → ∀ n, mem (runsAt a r) n → mem (runsAt b r) n
/-- in form -/
def FormD (H L : Pst) : Prop := InForm H ∧ InForm L ∧ InP L H
/-- what a check answers -/
def CkD (w w' : World) (e : Ending) (P : Prop) : Prop := ∃ x, e = .returned (.int .i64 x) ∧ ((x = 1 ∧ ¬ P) ∨ (x = 0 ∧ P)) ∧ Below w.heap.size w w'
set_option maxRecDepth 100000 in
set_option maxHeartbeats 1600000 in
theorem dcheck_any (d : Dg) (w : World) (hS : DgOk w d) : Calls Tryz.prog 9 #[DiV (mkD d)] w fun e w' => CkD w w' e (FormD d.h.P d.l.P) := by
  have HX := hide (DiBox_new w (mkD d))
  have HB := hide (below_new w (.cells (DiC (mkD d)) 27))
  have HS := hide (hS.below HB.out)
  clear hS
  obtain ⟨wk, hwk⟩ : ∃ wk, w.alloc (.cells (DiC (mkD d)) 27) = wk := ⟨_, rfl⟩
  obtain ⟨G, hG⟩ : ∃ G, w.heap.size = G := ⟨_, rfl⟩
  rw [hwk] at HX HB HS
  rw [hG] at HX
  have l1 := run_ldP HX.out.heard
  go_enter Tryz.func9, Tryz.ntmps9
  go_wp2_with fail
  clear hwk hG
  refine (isNormP_any d.h _ HS.out.1).mono ?_
  rintro e w2 ⟨b, rfl, hb, b2⟩
  have HB2 := hide (HB.out.trans (b2.mono HB.out.size))
  have HX2 := hide (HX.out.below b2)
  have HS2 := hide (HS.out.below b2)
  clear b2 l1 HX HB HS
  cases b with
  | false =>
    have HN : Hid (¬ FormD d.h.P d.l.P) := fun h => by have := hb.out.2 h.1; cases this
    clear hb
    go_wp2_with fail
    go_ret
    exact ⟨1, rfl, .inl ⟨rfl, HN.out⟩, HB2.out⟩
  | true =>
    have H1 : Hid (InForm d.h.P) := hb.out.1 rfl
    clear hb
    have l2 := run_ldP HX2.out.live
    go_wp2_with fail
    refine (isNormP_any d.l _ HS2.out.2).mono ?_
    rintro e w3 ⟨b, rfl, hb, b3⟩
    have HB3 := hide (HB2.out.trans (b3.mono HB2.out.size))
    have HX3 := hide (HX2.out.below b3)
    have HS3 := hide (HS2.out.below b3)
    clear b3 l2 HX2 HB2 HS2
    cases b with
    | false =>
      have HN : Hid (¬ FormD d.h.P d.l.P) := fun h => by have := hb.out.2 h.2.1; cases this
      clear hb
      go_wp2_with fail
      go_ret
      exact ⟨1, rfl, .inl ⟨rfl, HN.out⟩, HB3.out⟩
    | true =>
      have H2 : Hid (InForm d.l.P) := hb.out.1 rfl
      clear hb
      have l3 := run_ldP HX3.out.live
      have l4 := run_ldP HX3.out.heard
      go_wp2_with fail
      refine (pastWithin_any d.l d.h _ HS3.out.2 HS3.out.1).mono ?_
      rintro e w4 ⟨x, rfl, hx, b4⟩
      have HB4 := hide (HB3.out.trans (b4.mono HB3.out.size))
      have HI : Hid (BIf x (InP d.l.P d.h.P)) := hx
      clear hx b4 l3 l4
      cases x with
      | false =>
        have HN : Hid (¬ FormD d.h.P d.l.P) := fun h => by have := HI.out.2 h.2.2; cases this
        clear HI
        go_wp2_with fail
        go_ret
        exact ⟨1, rfl, .inl ⟨rfl, HN.out⟩, HB4.out⟩
      | true =>
        have HN : Hid (FormD d.h.P d.l.P) := ⟨H1.out, H2.out, HI.out.1 rfl⟩
        clear HI
        go_wp2_with fail
        go_ret
        exact ⟨0, rfl, .inr ⟨rfl, HN.out⟩, HB4.out⟩
set_option maxRecDepth 100000 in
set_option maxHeartbeats 1600000 in
theorem rinForm14_any (d : Dg) (w : World) (hS : DgOk w d) : Calls Tryz.prog 12 #[DiV (mkD d)] w fun e w' => GivB w w' e (FormD d.h.P d.l.P) := by
  have HX := hide (DiBox_new w (mkD d))
  have HB := hide (below_new w (.cells (DiC (mkD d)) 27))
  have HS := hide (hS.below HB.out)
  clear hS
  obtain ⟨wk, hwk⟩ : ∃ wk, w.alloc (.cells (DiC (mkD d)) 27) = wk := ⟨_, rfl⟩
  obtain ⟨G, hG⟩ : ∃ G, w.heap.size = G := ⟨_, rfl⟩
  rw [hwk] at HX HB HS
  rw [hG] at HX
  have l1 := run_ldP HX.out.heard
  go_enter Tryz.func12, Tryz.ntmps12
  go_wp2_with fail
  clear hwk hG
  refine (refIsNorm_any d.h _ HS.out.1).mono ?_
  rintro e w2 ⟨b, rfl, hb, b2⟩
  have HB2 := hide (HB.out.trans (b2.mono HB.out.size))
  have HX2 := hide (HX.out.below b2)
  have HS2 := hide (HS.out.below b2)
  have HI1 : Hid (BIf b (InForm d.h.P)) := hb
  clear b2 l1 HX HB HS hb
  cases b with
  | false =>
    have HN : Hid (BIf false (FormD d.h.P d.l.P)) := ⟨(fun h => by cases h), fun h => HI1.out.2 h.1⟩
    clear HI1
    go_wp2_with fail
    go_ret
    exact ⟨false, rfl, HN.out, HB2.out⟩
  | true =>
    have H1 : Hid (InForm d.h.P) := HI1.out.1 rfl
    clear HI1
    have l2 := run_ldP HX2.out.live
    go_wp2_with fail
    refine (refIsNorm_any d.l _ HS2.out.2).mono ?_
    rintro e w3 ⟨b, rfl, hb, b3⟩
    have HB3 := hide (HB2.out.trans (b3.mono HB2.out.size))
    have HX3 := hide (HX2.out.below b3)
    have HS3 := hide (HS2.out.below b3)
    have HI2 : Hid (BIf b (InForm d.l.P)) := hb
    clear b3 l2 HX2 HB2 HS2 hb
    cases b with
    | false =>
      have HN : Hid (BIf false (FormD d.h.P d.l.P)) := ⟨(fun h => by cases h), fun h => HI2.out.2 h.2.1⟩
      clear HI2
      go_wp2_with fail
      go_ret
      exact ⟨false, rfl, HN.out, HB3.out⟩
    | true =>
      have H2 : Hid (InForm d.l.P) := HI2.out.1 rfl
      clear HI2
      have l3 := run_ldP HX3.out.live
      have l4 := run_ldP HX3.out.heard
      go_wp2_with fail
      refine (refWithin_any d.l d.h _ HS3.out.2 HS3.out.1).mono ?_
      rintro e w4 ⟨x, rfl, hx, b4⟩
      have HB4 := hide (HB3.out.trans (b4.mono HB3.out.size))
      have HN : Hid (BIf x (FormD d.h.P d.l.P)) := ⟨fun h => ⟨H1.out, H2.out, hx.1 h⟩, fun h => hx.2 h.2.2⟩
      clear hx b4 l3 l4
      go_wp2_with fail
      go_ret
      exact ⟨x, rfl, HN.out, HB4.out⟩
set_option maxRecDepth 100000 in
set_option maxHeartbeats 1600000 in
theorem requal14_any (a b : Dg) (w : World) (hA : DgOk w a) (hB : DgOk w b) : Calls Tryz.prog 8 #[DiV (mkD a), DiV (mkD b)] w fun e w' => GivB w w' e (a.h.P = b.h.P ∧ a.l.P = b.l.P) := by
  have b1 := below_new w (.cells (DiC (mkD a)) 27)
  have b2 := below_new (w.alloc (.cells (DiC (mkD a)) 27)) (.cells (DiC (mkD b)) 27)
  have p2 := DiBox_new (w.alloc (.cells (DiC (mkD a)) 27)) (mkD b)
  rw [World.size_alloc] at p2
  have HXA := hide ((DiBox_new w (mkD a)).below b2)
  have HXB := hide p2
  have HBK := hide (b1.trans (b2.mono b1.size))
  have HSA := hide (hA.below HBK.out)
  have HSB := hide (hB.below HBK.out)
  obtain ⟨wk, hwk⟩ : ∃ wk, (w.alloc (.cells (DiC (mkD a)) 27)).alloc (.cells (DiC (mkD b)) 27) = wk := ⟨_, rfl⟩
  obtain ⟨G, hG⟩ : ∃ G, w.heap.size = G := ⟨_, rfl⟩
  rw [hwk] at HXA HXB HBK HSA HSB
  rw [hG] at HXA HXB
  clear b1 b2 p2 hA hB
  have l1 := run_ldP HXA.out.heard
  have l2 := run_ldP HXB.out.heard
  go_enter Tryz.func8, Tryz.ntmps8
  go_wp2_with fail
  clear hwk hG
  refine (samePast_any a.h b.h _ HSA.out.1 HSB.out.1).mono ?_
  rintro e w2 ⟨x, rfl, hx, b2⟩
  have HB2 := hide (HBK.out.trans (b2.mono HBK.out.size))
  have HXA2 := hide (HXA.out.below b2)
  have HXB2 := hide (HXB.out.below b2)
  have HSA2 := hide (HSA.out.below b2)
  have HSB2 := hide (HSB.out.below b2)
  have HI : Hid (BIf x (a.h.P = b.h.P)) := hx
  clear b2 hx l1 l2 HXA HXB HSA HSB HBK
  cases x with
  | false =>
    have HN : Hid (BIf false (a.h.P = b.h.P ∧ a.l.P = b.l.P)) := ⟨(fun h => by cases h), fun h => HI.out.2 h.1⟩
    clear HI
    go_wp2_with fail
    go_ret
    exact ⟨false, rfl, HN.out, HB2.out⟩
  | true =>
    have H1 : Hid (a.h.P = b.h.P) := HI.out.1 rfl
    clear HI
    have l3 := run_ldP HXA2.out.live
    have l4 := run_ldP HXB2.out.live
    go_wp2_with fail
    refine (samePast_any a.l b.l _ HSA2.out.2 HSB2.out.2).mono ?_
    rintro e w3 ⟨x, rfl, hx, b3⟩
    have HB3 := hide (HB2.out.trans (b3.mono HB2.out.size))
    have HN : Hid (BIf x (a.h.P = b.h.P ∧ a.l.P = b.l.P)) := ⟨fun h => ⟨H1.out, hx.1 h⟩, fun h => hx.2 h.2⟩
    clear hx b3 l3 l4
    go_wp2_with fail
    go_ret
    exact ⟨x, rfl, HN.out, HB3.out⟩
end Go.Proofs.YtbmjiedpaffifaaGreat
