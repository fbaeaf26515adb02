/- EJa QRy QRv QCp -/
import Derived.Test.YtmbkmpeongodbaaGreatTk
import Derived.Test.YtmbkmpeongodbaaGreatAm28
import Derived.Test.YtmbkmpeongodbaaGreatAm30
import Derived.Deep.CutRange
import Derived.Test.YtmbkmpeongodbaaGreatAm09
import Derived.Test.YtmbkmpeongodbaaGreatAm13
import Derived.Test.YtmbkmpeongodbaaGreatAm10
namespace Go.Proofs.YtmbkmpeongodbaaGreat
open Go.RowKit
attribute [local go_sem ↓] ldP_eq stP_eq ldFa_eq stFa_eq ldRe_eq stRe_eq
attribute [local go_sem] cells_PV PC_size cells_FaV FaC_size cells_ReV ReC_size
theorem rcs_spot {w : World} {ad : Addr} {n c : Nat} {L : List Rc} (h : RcS w (some ad) n c L) (hn : 0 < n) : ∃ b o, ad = ⟨b, o, none⟩ := by
 obtain ⟨ad0, e0, A00⟩ := h.at 0 hn
 obtain rfl := Option.some.inj e0
 have hsp := World.cell?_spot A00.c0
 rw [Nat.zero_mul, add_zero] at hsp
 obtain ⟨b, o, sp⟩ := ad
 have hsp : sp = none := hsp
 subst hsp
 exact ⟨b, o, rfl⟩
theorem re_flat {w : World} {b o : Nat} {r : Rc} (A : ReAt w ⟨b, o, none⟩ (mkR r)) : w.cell? ⟨b, o, none⟩ = some (.string r.s) ∧ PAt w ⟨b, o + 1, none⟩ r.p := by
 obtain ⟨h0, h1, h2⟩ := A
 rw [Addr.add_lit] at h1 h2
 refine ⟨h0, h1, ?_⟩
 rw [Addr.add_lit]
 exact h2
theorem same_at {A B : List Rc} (h : A.map (fun r => (r.s, r.p.P)) = B.map (fun r => (r.s, r.p.P))) {k : Nat} (hk : k < A.length) : (A.getD k rc0).s = (B.getD k rc0).s ∧ (A.getD k rc0).p.P = (B.getD k rc0).p.P := by
 have hl : A.length = B.length := by have := congrArg List.length h; simpa using this
 have h1 : (A.map (fun r => (r.s, r.p.P)))[k]? = (B.map (fun r => (r.s, r.p.P)))[k]? := by rw [h]
 rw [List.getElem?_map, List.getElem?_map, List.getElem?_eq_getElem hk, List.getElem?_eq_getElem (by omega)] at h1
 simp only [Option.map_some, Option.some.injEq, Prod.mk.injEq] at h1
 rw [List.getD_eq_getElem?_getD, List.getD_eq_getElem?_getD, List.getElem?_eq_getElem hk, List.getElem?_eq_getElem (by omega)]
 exact h1
set_option maxRecDepth 100000 in
set_option maxHeartbeats 6400000 in
theorem facts_true (f h : Fc) (w : World) (hF : FcOk w f) (hH : FcOk w h) (hE : SameF f h) :
  Calls Tryz.prog 9 #[FaV (mkF f), FaV (mkF h)] w fun e w' => e = .returned (.bool true) ∧ Below w.heap.size w w' := by
 have b1 := below_new w (.cells (FaC (mkF f)) 36)
 have b2 := below_new (w.alloc (.cells (FaC (mkF f)) 36)) (.cells (FaC (mkF h)) 36)
 have X2 := FaBox_new (w.alloc (.cells (FaC (mkF f)) 36)) (mkF h)
 rw [World.size_alloc] at X2
 have HX := hide ((FaBox_new w (mkF f)).below b2)
 have HY := hide X2
 have HBK := hide (b1.trans (b2.mono b1.size))
 have HF := hide (hF.below HBK.out)
 have HH := hide (hH.below HBK.out)
 have HE := hide hE
 have HLl : Hid (f.rs.length = f.rn ∧ f.rn ≤ 2199023255552) := ⟨hF.rs.len, hF.rs.big⟩
 have hrn : h.rn = f.rn := by
  have := congrArg List.length hE.2.2
  simp only [List.length_map] at this
  rw [← hF.rs.len, ← hH.rs.len, this]
 have hnb := hF.rs.big
 have HRn := hide hrn
 clear b1 b2 X2 hF hH hE hrn
 obtain ⟨wk, hwk⟩ : ∃ wk, (w.alloc (.cells (FaC (mkF f)) 36)).alloc (.cells (FaC (mkF h)) 36) = wk := ⟨_, rfl⟩
 obtain ⟨G, hG⟩ : ∃ G, w.heap.size = G := ⟨_, rfl⟩
 rw [hwk] at HX HY HBK HF HH
 rw [hG] at HX HY
 obtain ⟨c0, c3⟩ := HX.out.cs
 obtain ⟨d0, d3⟩ := HY.out.cs
 go_enter Tryz.func9, Tryz.ntmps9
 go_wp2_with fail
 clear hwk hG c0 c3 d0 d3
 refine (entries08_any f.ao h.ao f.an h.an f.ac h.ac f.es h.es _ HF.out.es HH.out.es).mono ?_
 rintro e w1 ⟨x, rfl, hx, b1⟩
 obtain rfl : x = true := hx.2 HE.out.1
 have HB1 := hide b1
 clear hx b1
 have l1 := run_ldP (HX.out.below HB1.out).past
 have l2 := run_ldP (HY.out.below HB1.out).past
 go_wp2_with fail
 clear l1 l2
 refine (samePast_any f.p h.p _ (HF.out.p.below HB1.out) (HH.out.p.below HB1.out)).mono ?_
 rintro e w2 ⟨x, rfl, hx, b2⟩
 obtain rfl : x = true := hx.2 HE.out.2.1
 have HB2 := hide (HB1.out.trans (b2.mono HB1.out.size))
 clear hx b2
 have c3 := (HX.out.below HB2.out).cs.2
 have d3 := (HY.out.below HB2.out).cs.2
 rw [HRn.out] at d3
 have hnn : ((f.rn : Int) != (f.rn : Int)) = false := by simp
 go_wp2_with fail
 clear c3 d3 hnn
 go_loopw [5] (fun i wr => ∃ k : Nat, k ≤ f.rn ∧ i = .int .i64 (k : Int) ∧ Hid (Below wk.heap.size wk wr)) (fun i _ => f.rn - (intOf i).toNat)
 case atStart => exact ⟨0, Nat.zero_le _, rfl, HB2⟩
 case round =>
  obtain ⟨k, hk, rfl, HB⟩ := hrel
  rename World => wr
  have c3 := (HX.out.below HB.out).cs.2
  by_cases hlt : k < f.rn
  ·have hlti : (k : Int) < (f.rn : Int) := by omega
   obtain ⟨ad, hao, A0⟩ := (HF.out.rs.below HB.out).at k hlt
   obtain ⟨bd, hbo, B0⟩ := (HH.out.rs.below HB.out).at k (by rw [HRn.out]; exact hlt)
   have hsf := HF.out.rs
   have hsh := HH.out.rs
   rw [hao] at hsf
   rw [hbo] at hsh
   obtain ⟨b1, o1, rfl⟩ := rcs_spot hsf (by omega)
   obtain ⟨b2, o2, rfl⟩ := rcs_spot hsh (by rw [HRn.out]; omega)
   have HO1 := (HF.out.rs.below HB.out).okAt k hlt
   have HO2 := (HH.out.rs.below HB.out).okAt k (by rw [HRn.out]; exact hlt)
   have hsa := same_at HE.out.2.2 (k := k) (by have := HLl.out.1; omega)
   obtain ⟨x, Hx⟩ : ∃ x, Hid (f.rs.getD k rc0 = x) := ⟨_, rfl⟩
   obtain ⟨y, Hy⟩ : ∃ y, Hid (h.rs.getD k rc0 = y) := ⟨_, rfl⟩
   rw [Hx.out] at A0 HO1 hsa
   rw [Hy.out] at B0 HO2 hsa
   rw [Addr.add_lit] at A0 B0
   have HA := hide A0
   have HBb := hide B0
   have HO : Hid (PSrc wr x.p ∧ PSrc wr y.p) := ⟨HO1.1, HO2.1⟩
   have HSa := hide hsa
   have hsb : (x.s.toList == y.s.toList) = true := by rw [hsa.1]; simp
   have Hlt := hide hlt
   have hklt2 : (k : Int) < (h.rn : Int) := by rw [HRn.out]; omega
   rw [hao] at c3
   have HAo := hide hao
   have HBo := hide hbo
   clear hao hbo A0 B0 HO1 HO2 hsf hsh hsa hlt
   go_upto_region 6 with fail
   clear c3
   have HD := hide (HB.out.trans ((below_drew1 wr).mono HB.out.size))
   refine wp_region_held_drew (S := fun v => ((v.cell? ⟨G, 3, none⟩ = some (.slice (some ⟨b1, o1, none⟩) f.rn f.rc) ∧ v.cell? ⟨G + 1, 3, none⟩ = some (.slice (some ⟨b2, o2, none⟩) h.rn h.rc)) ∧ v.cell? ⟨b1, o1 + k * 3, none⟩ = some (.string x.s) ∧ v.cell? ⟨b2, o2 + k * 3, none⟩ = some (.string y.s)) ∧ (ldP (.pointer (some ⟨b1, o1 + k * 3 + 1, none⟩))).run Tryz.prog v = .ok (PV x.p) v ∧ (ldP (.pointer (some ⟨b2, o2 + k * 3 + 1, none⟩))).run Tryz.prog v = .ok (PV y.p) v) (by kernel_rfl) (⟨⟨⟨by have := (HX.out.below HD.out).cs.2; rw [HAo.out] at this; exact this, by have := (HY.out.below HD.out).cs.2; rw [HBo.out] at this; exact this⟩, (re_flat (HA.out.on (below_drew1 wr))).1, (re_flat (HBb.out.on (below_drew1 wr))).1⟩, run_ldP (re_flat (HA.out.on (below_drew1 wr))).2, run_ldP (re_flat (HBb.out.on (below_drew1 wr))).2⟩) (fun hHeld => ?_)
   refine wTk 0 ⟨some 36, .fieldAddr 36 (.tmp 2) 2, 0, "law.go:46", #[], none⟩ rfl ?_
   refine wTk 1 ⟨some 37, .load 34 (.tmp 36), 34, "law.go:46", #[⟨0, .data⟩], none⟩ rfl ?_
   refine wTk 2 ⟨some 38, .move (.tmp 5), 3, "law.go:46", #[], none⟩ rfl ?_
   refine wTk 3 ⟨some 39, .indexAddr 34 (.tmp 37) (.tmp 38), 0, "law.go:46", #[⟨1, .data⟩, ⟨2, .data⟩], none⟩ rfl ?_
   refine wTk 4 ⟨some 40, .fieldAddr 65 (.tmp 39) 0, 0, "law.go:46", #[⟨3, .data⟩], none⟩ rfl ?_
   refine wTk 5 ⟨some 41, .load 9 (.tmp 40), 9, "law.go:46", #[⟨4, .data⟩], none⟩ rfl ?_
   refine wTk 6 ⟨some 42, .fieldAddr 36 (.tmp 3) 2, 0, "law.go:46", #[], none⟩ rfl ?_
   refine wTk 7 ⟨some 43, .load 34 (.tmp 42), 34, "law.go:46", #[⟨6, .data⟩], none⟩ rfl ?_
   refine wTk 8 ⟨some 44, .move (.tmp 5), 3, "law.go:46", #[], none⟩ rfl ?_
   refine wTk 9 ⟨some 45, .indexAddr 34 (.tmp 43) (.tmp 44), 0, "law.go:46", #[⟨7, .data⟩, ⟨8, .data⟩], none⟩ rfl ?_
   refine wTk 10 ⟨some 46, .fieldAddr 65 (.tmp 45) 0, 0, "law.go:46", #[⟨9, .data⟩], none⟩ rfl ?_
   refine wTk 11 ⟨some 47, .load 9 (.tmp 46), 9, "law.go:46", #[⟨10, .data⟩], none⟩ rfl ?_
   refine wTk 12 ⟨some 48, .binOp .neq 9 (.tmp 41) (.tmp 47) 9, 4, "law.go:46", #[⟨5, .data⟩, ⟨11, .data⟩], none⟩ rfl ?_
   refine wTk 13 ⟨some 49, .move (.tmp 48), 4, "law.go:46", #[⟨12, .data⟩], none⟩ rfl ?_
   refine wTk 14 ⟨some 50, .fieldAddr 36 (.tmp 2) 2, 0, "law.go:46", #[⟨13, .guard⟩], some (13, false)⟩ rfl ?_
   refine wTk 15 ⟨some 51, .load 34 (.tmp 50), 34, "law.go:46", #[⟨14, .data⟩, ⟨13, .guard⟩], some (13, false)⟩ rfl ?_
   refine wTk 16 ⟨some 52, .move (.tmp 5), 3, "law.go:46", #[⟨13, .guard⟩], some (13, false)⟩ rfl ?_
   refine wTk 17 ⟨some 53, .indexAddr 34 (.tmp 51) (.tmp 52), 0, "law.go:46", #[⟨15, .data⟩, ⟨16, .data⟩, ⟨13, .guard⟩], some (13, false)⟩ rfl ?_
   refine wTk 18 ⟨some 54, .fieldAddr 65 (.tmp 53) 1, 0, "law.go:46", #[⟨17, .data⟩, ⟨13, .guard⟩], some (13, false)⟩ rfl ?_
   refine wTk 19 ⟨some 55, .load 26 (.tmp 54), 26, "law.go:46", #[⟨18, .data⟩, ⟨13, .guard⟩], some (13, false)⟩ rfl ?_
   refine wTk 20 ⟨some 56, .fieldAddr 36 (.tmp 3) 2, 0, "law.go:46", #[⟨13, .guard⟩], some (13, false)⟩ rfl ?_
   refine wTk 21 ⟨some 57, .load 34 (.tmp 56), 34, "law.go:46", #[⟨20, .data⟩, ⟨13, .guard⟩], some (13, false)⟩ rfl ?_
   refine wTk 22 ⟨some 58, .move (.tmp 5), 3, "law.go:46", #[⟨13, .guard⟩], some (13, false)⟩ rfl ?_
   refine wTk 23 ⟨some 59, .indexAddr 34 (.tmp 57) (.tmp 58), 0, "law.go:46", #[⟨21, .data⟩, ⟨22, .data⟩, ⟨13, .guard⟩], some (13, false)⟩ rfl ?_
   refine wTk 24 ⟨some 60, .fieldAddr 65 (.tmp 59) 1, 0, "law.go:46", #[⟨23, .data⟩, ⟨13, .guard⟩], some (13, false)⟩ rfl ?_
   refine wTk 25 ⟨some 61, .load 26 (.tmp 60), 26, "law.go:46", #[⟨24, .data⟩, ⟨13, .guard⟩], some (13, false)⟩ rfl ?_
   refine wpAnyH_ready (rs := [26]) (by kernel_rfl) (by simp) (.cons rfl (fun K hK => ?_) .nil)
   go_simp
   go_wp2_with fail
   refine (samePast_any x.p y.p _ (HO.out.1.below (below_drew1 wr)) (HO.out.2.below (below_drew1 wr))).mono ?_
   rintro e w3 ⟨b, rfl, hb, b3⟩
   obtain rfl : b = true := hb.2 HSa.out.2
   have HB3 := hide (HD.out.trans (b3.mono HD.out.size))
   have HW3 := hide ((below_drew1 wr).trans (b3.mono (below_drew1 wr).size))
   refine hK.out _ _ ⟨⟨⟨by have := (HX.out.below HB3.out).cs.2; rw [HAo.out] at this; exact this, by have := (HY.out.below HB3.out).cs.2; rw [HBo.out] at this; exact this⟩, (re_flat (HA.out.on HW3.out)).1, (re_flat (HBb.out.on HW3.out)).1⟩, run_ldP (re_flat (HA.out.on HW3.out)).2, run_ldP (re_flat (HBb.out.on HW3.out)).2⟩ (fun hHeld => ?_)
   clear hK K hb b3
   refine wTk 27 ⟨some 63, .unOp .not 4 (.tmp 62), 4, "law.go:46", #[⟨26, .data⟩, ⟨13, .guard⟩], some (13, false)⟩ rfl ?_
   refine wTk 28 ⟨some 64, .pick (.tmp 49) (.const (.bool true)) (.tmp 63), 4, "law.go:46", #[⟨13, .data⟩, ⟨27, .data⟩], none⟩ rfl ?_
   refine wpAnyH_done (by kernel_rfl) ?_ _
   clear hHeld
   go_wp2_with fail
   go_roundw
   case rel => exact ⟨k + 1, Hlt.out, by simp, HB3⟩
   case measure => simp [intOf]; have := Hlt.out; omega
  ·have hlti : ¬ (k : Int) < (f.rn : Int) := by omega
   have HBf := hide (HBK.out.trans (HB.out.mono HBK.out.size))
   go_wp2_with fail
   go_ret
   exact ⟨rfl, HBf.out⟩
end Go.Proofs.YtmbkmpeongodbaaGreat
namespace Go.Proofs.YtmbkmpeongodbaaGreat
open Go.RowKit
attribute [local go_sem ↓] ldP_eq stP_eq ldJ_eq stJ_eq
attribute [local go_sem] zeros_JA cells_JAv zero_PC cells_PV fold_PC PC_size fold_PC1
def szn (N : Nat → List Rn) : Nat → Int
 | 0 => 0
 | k + 1 => szn N k + sz (N k)
theorem szn_bd {N : Nat → List Rn} : ∀ k, (∀ r, r < k → form 1 (N r)) → 0 ≤ szn N k ∧ szn N k ≤ k * 1000000000
 | 0, _ => by simp [szn]
 | k + 1, h => by
  have h1 := szn_bd k (fun r hr => h r (by omega))
  have h2 := sz_top (h k (by omega))
  simp only [szn]
  omega
theorem sz_next (R : List Rn) (t : Nat) (h : t < R.length) : sz (R.take (t + 1)) = sz (R.take t) + ((R.getD t rn0).hi - (R.getD t rn0).lo + 1) := by
 rw [rn_take R t h, sz_append, sz_cons]
 simp [sz]
set_option maxRecDepth 100000 in
set_option maxHeartbeats 1000000 in
theorem refSize_any (a : Pv) (w : World) (hS : PSrc w a) : Calls Tryz.prog 65 #[PV a] w fun e w' => ∃ N : Nat → List Rn, (∀ r, r < 16 → NormOf (runsAt a.P r) (N r)) ∧ e = .returned (.int .i64 (szn N 16)) ∧ Below w.heap.size w w' := by
 have b1 := below_new w (.cells (PC a) 26)
 have HX := hide (pbox_new w a)
 have HBK := hide b1
 have HS := hide (hS.below b1)
 clear b1 hS
 have l1 := run_ldP HX.out.at
 go_enter Tryz.func65, Tryz.ntmps65
 go_wp2_with fail
 refine (one_any a _ HS.out).mono ?_
 rintro e w2 ⟨T, N, rfl, hT, b4⟩
 have HT := hide hT
 have HB4 := hide (HBK.out.trans (b4.mono HBK.out.size))
 have b5 := below_new w2 (.cells (JA fun _ => si0) 105)
 have hst := run_stJ (F' := T) (isets_new w2 105 (fun _ => si0))
 have HZ := hide (ISets.setRow (F' := T) (isets_new w2 105 (fun _ => si0)))
 have HB6 : Hid (Below w2.heap.size w2 ((w2.alloc (.cells (JA fun _ => si0) 105)).setRow w2.heap.size (JA T))) := below_setRow b5 (Nat.le_refl _)
 clear hT b4 b5 l1
 go_wp2_with fail
 clear hst
 obtain ⟨w5, hw5⟩ : ∃ w5, (w2.alloc (.cells (JA fun _ => si0) 105)).setRow w2.heap.size (JA T) = w5 := ⟨_, rfl⟩
 rw [hw5] at HZ HB6 ⊢
 clear hw5
 go_loopw [4, 5] (fun vn vr wr => ∃ (y : Nat) (z : Int), y ≤ 16 ∧ vn = .int .i64 z ∧ vr = .int .i64 y ∧ Hid (z = szn N y ∧ Below w5.heap.size w5 wr)) (fun _ i _ => 16 - (intOf i).toNat)
 case atStart => exact ⟨0, 0, Nat.zero_le _, rfl, rfl, rfl, Below.refl _ _⟩
 case round =>
  obtain ⟨y, z, hy16, rfl, rfl, HI⟩ := hrel
  rename World => w6
  have y0 : (0 : Int) ≤ (y : Int) := by omega
  by_cases hy : y < 16
  ·have y1 : (y : Int) < 16 := by omega
   have HF := hide (HT.out y hy).2.2.1
   have HSR := hide ((HT.out y hy).1.below HB6.out)
   obtain ⟨sa, sn, sc, hf⟩ : ∃ sa sn sc, (T y).ao = sa ∧ (T y).n = sn ∧ (T y).cap = sc := ⟨_, _, _, rfl, rfl, rfl⟩
   rw [hf.1, hf.2.1, hf.2.2] at HSR
   have HTY := hide hf
   clear hf
   have HSN : Hid (sn = 2 * (N y).length) := by have := HSR.out.1; rw [tn_length] at this; show _ = _; omega
   have hsmall := form_small (Int.le_refl _) HF.out
   have hsb : sn ≤ 1000000002 := by have := HSN.out; omega
   have HSB := hide (And.intro (szn_bd (N := N) y (fun r hr => (HT.out r (by omega)).2.2.1)) (sz_top HF.out))
   go_wp2_with fail
   go_loopw [4, 6] (fun vn vk wr => ∃ (t kk : Nat) (z : Int), t ≤ (N y).length ∧ kk = 2 * t ∧ vn = .int .i64 z ∧ vk = .int .i64 kk ∧ Hid (z = szn N y + sz ((N y).take t) ∧ Below w5.heap.size w5 wr)) (fun _ i _ => sn - (intOf i).toNat)
   case atStart => exact ⟨0, 0, z, Nat.zero_le _, rfl, rfl, rfl, by rw [HI.out.1]; simp [sz], HI.out.2⟩
   case round =>
    obtain ⟨t, kk, z, ht, hkk, rfl, rfl, HI⟩ := hrel
    rename World => w6
    have HKK := hide hkk
    clear hkk
    have c0 := (HZ.out.below HI.out.2).cell y hy
    rw [HTY.out.1, HTY.out.2.1, HTY.out.2.2] at c0
    obtain ⟨k1, hk1e⟩ : ∃ k1 : Nat, kk + 1 = k1 := ⟨_, rfl⟩
    have hkw : IntKind.i64.wrap ((kk : Int) + 1) = (k1 : Int) := by have := HKK.out; rw [IntKind.wrap_i64]; omega
    by_cases hlt : t < (N y).length
    ·have hk1 : k1 < sn := by have := HKK.out; have := HSN.out; omega
     have hk0 : kk < sn := by omega
     obtain ⟨da, hda, qa⟩ := isrc_at (HSR.out.below HI.out.2) kk hk0
     obtain ⟨db, hdb, qb⟩ := isrc_at (HSR.out.below HI.out.2) k1 hk1
     have hdd : db = da := Option.some.inj (hdb.symm.trans hda)
     rw [hdd] at qb
     clear hdb hdd
     subst hda
     obtain ⟨tl1, tl2⟩ := tn_lo (N y) t hlt
     rw [← HKK.out] at tl1 tl2
     rw [hk1e] at tl2
     rw [tl1] at qa
     rw [tl2] at qb
     have hfg := form_gt HF.out t hlt
     have hnx := sz_next (N y) t hlt
     have htk := sz_take (N y) 1 t HF.out
     have htk2 := sz_take (N y) 1 (t + 1) HF.out
     obtain ⟨x, Hx⟩ : ∃ x, Hid ((N y).getD t rn0 = x) := ⟨_, rfl⟩
     rw [Hx.out] at qa qb hfg hnx
     obtain ⟨lo, hlo⟩ : ∃ lo, x.lo = lo := ⟨_, rfl⟩
     obtain ⟨h1, hh1⟩ : ∃ h1, x.hi + 1 = h1 := ⟨_, rfl⟩
     rw [hlo] at qa
     rw [hh1] at qb
     have hzb : 0 ≤ z ∧ z ≤ 17000000000 ∧ 1 ≤ lo ∧ lo < h1 ∧ h1 ≤ 1000000001 := by have := HSB.out; have := HI.out.1; omega
     have HZN : Hid (z + (h1 - lo) = szn N y + sz ((N y).take (t + 1))) := by show _ = _; have := HI.out.1; omega
     have HIB := hide HI.out.2
     clear hlo hh1 db tl1 tl2 hfg hnx htk htk2 HI Hx
     obtain ⟨hz0, hz1, hl0, hl1, hh2⟩ := hzb
     have hw1 : IntKind.i64.wrap (h1 - lo) = h1 - lo := by rw [IntKind.wrap_i64]; omega
     have hw2 : IntKind.i64.wrap (z + (h1 - lo)) = z + (h1 - lo) := by rw [IntKind.wrap_i64]; omega
     have r0 := cell_regrown c0
     have r1 := cell_regrown qa
     have r2 := cell_regrown qb
     have HK1 := hide hk1e
     clear hk1e
     go_wp2_with fail
     refine wp_region_quiet_below (by kernel_rfl) (by kernel_rfl) ?_
     repeat (with_reducible (refine wpQuiet_step ?_); intro K hK; go_simp; (try rw [if_neg (by unfold undef; simp)]); first | (with_reducible (refine hK _ ?_); clear hK K) | (apply Exists.intro; refine ⟨fun _ => ?_, hK _ ?_⟩; (fail); clear hK K))
     with_reducible (refine wpQuiet_nil ?_)
     intro w7 hw'
     obtain ⟨⟨dq, osq⟩, hw''⟩ := hw'
     have bw7 : Below w6.heap.size w6 w7 := by rw [hw'']; exact below_regrown w6 dq osq
     clear hw'' dq osq r0 r1 r2
     go_wp2_with fail
     go_roundw
     case rel => exact ⟨t + 1, kk + 2, z + (h1 - lo), by omega, by have := HKK.out; omega, by go_num, by go_num, HZN.out, HIB.out.trans (bw7.mono HIB.out.size)⟩
     case measure => (have := HK1.out; simp [intOf]; omega)
    ·obtain rfl : t = (N y).length := by omega
     have hk1 : ¬ (k1 : Int) < (sn : Int) := by have := HKK.out; have := HSN.out; omega
     have HN2 : Hid (z = szn N (y + 1)) := by have := HI.out.1; rw [List.take_length] at this; exact this
     have HIB := hide HI.out.2
     clear hk1e HI
     go_wp2_with fail
     go_roundw
     case rel => exact ⟨y + 1, z, by omega, rfl, by go_num, HN2.out, HIB.out⟩
     case measure => simp [intOf]; omega
  ·obtain rfl : y = 16 := by omega
   have HFin : Hid (∃ M : Nat → List Rn, (∀ r, r < 16 → NormOf (runsAt a.P r) (M r)) ∧ (Ending.returned (.int .i64 z) : Ending) = .returned (.int .i64 (szn M 16)) ∧ Below w.heap.size w w6) := ⟨N, fun r hr => (HT.out r hr).2.2, by rw [HI.out.1], HB4.out.trans ((HB6.out.trans (HI.out.2.mono HB6.out.size)).mono HB4.out.size)⟩
   clear HI
   go_wp2_with fail
   go_ret
   exact HFin.out
end Go.Proofs.YtmbkmpeongodbaaGreat
namespace Go.Proofs.YtmbkmpeongodbaaGreat
open Go.RowKit
attribute [local go_sem ↓] ldP_eq stP_eq ldJ_eq stJ_eq
attribute [local go_sem] zeros_JA cells_JAv zero_PC cells_PV fold_PC PC_size fold_PC1
theorem szn_sumZ (N : Nat → List Rn) : ∀ k, szn N k = sumZ N k
 | 0 => rfl
 | k + 1 => by simp only [szn, sumZ, szn_sumZ N k]
set_option maxRecDepth 100000 in
theorem refEmpty_any (a : Pv) (w : World) (hS : PSrc w a) : Calls Tryz.prog 30 #[PV a] w fun e w' => ∃ b, e = .returned (.bool b) ∧ (b = true ↔ ∀ r, r < 16 → ∀ n, ¬ mem (runsAt a.P r) n) ∧ Below w.heap.size w w' := by
 have b1 := below_new w (.cells (PC a) 26)
 have l1 := run_ldP (pbox_new w a).at
 have HBK := hide b1
 have HS := hide (hS.below b1)
 clear b1 hS
 go_enter Tryz.func30, Tryz.ntmps30
 go_wp2_with fail
 refine (refSize_any a _ HS.out).mono ?_
 rintro e w2 ⟨N, hN, rfl, b2⟩
 have hz : SizeP (runsAt a.P) (szn N 16) := ⟨N, hN, szn_sumZ N 16⟩
 have HFin : Hid (∃ b, (Ending.returned (.bool (szn N 16 == 0)) : Ending) = .returned (.bool b) ∧ (b = true ↔ ∀ r, r < 16 → ∀ n, ¬ mem (runsAt a.P r) n) ∧ Below w.heap.size w w2) := ⟨_, rfl, by rw [← hz.zero]; simp, HBK.out.trans (b2.mono HBK.out.size)⟩
 clear hz hN b2 l1
 generalize szn N 16 = z at *
 go_wp2_with fail
 go_ret
 exact HFin.out
end Go.Proofs.YtmbkmpeongodbaaGreat
namespace Go.Proofs.YtmbkmpeongodbaaGreat

theorem cmpI_zero {a b : Int} : cmpI a b = 0 ↔ a = b := cmpI_tot.eq a b
theorem lex_at : ∀ (r : Nat) (x y : List Int), (∀ k, 0 ≤ x.getD k 0) → (∀ k, 0 ≤ y.getD k 0) → (∀ k, k < r → x.getD k 0 = y.getD k 0) → x.getD r 0 ≠ y.getD r 0 → lex cmpI x y = cmpI (x.getD r 0) (y.getD r 0)
 | r, [], [], _, _, _, h => by simp at h
 | r, [], b :: t, _, hy, _, h => by
  have := hy r
  simp only [List.getD_nil] at h ⊢
  rw [lex, cmpI, if_pos (by omega)]
 | r, a :: s, [], hx, _, _, h => by
  have := hx r
  simp only [List.getD_nil] at h ⊢
  rw [lex, cmpI, if_neg (by omega), if_pos (by omega)]
 | 0, a :: s, b :: t, _, _, _, h => by
  simp only [List.getD_cons_zero] at h ⊢
  rw [lex, if_neg (fun e => h (cmpI_zero.1 e))]
 | r + 1, a :: s, b :: t, hx, hy, he, h => by
  have h0 := he 0 (by omega)
  simp only [List.getD_cons_zero] at h0
  simp only [List.getD_cons_succ] at h ⊢
  rw [lex, if_pos (cmpI_zero.2 h0)]
  exact lex_at r s t (fun k => by have := hx (k + 1); rwa [List.getD_cons_succ] at this) (fun k => by have := hy (k + 1); rwa [List.getD_cons_succ] at this) (fun k hk => by have := he (k + 1) (by omega); rwa [List.getD_cons_succ, List.getD_cons_succ] at this) h
theorem same_short {f g : Nat → Int} (h : ∀ k, k < 16 → (V.short f).getD k 0 = (V.short g).getD k 0) : V.short f = V.short g :=
 short_congr fun r hr => by rw [← V.short_getD f r hr, ← V.short_getD g r hr, h r hr]
theorem canon_nums {G : Nat → List Rn} {P : Pst} (h : CanonOf G P) : ∃ f : Nat → Int, P.vec = V.short f ∧ ∀ k, 0 ≤ P.vec.getD k 0 := by
 obtain ⟨N, hN, rfl⟩ := h
 refine ⟨fun r => leadOf (N r), rfl, fun k => ?_⟩
 show 0 ≤ (V.short (fun r => leadOf (N r))).getD k 0
 by_cases hk : k < 16
 ·rw [V.short_getD _ k hk]; exact (leadOf_bd (hN k hk).1).1
 ·have := V.top_le (fun r => leadOf (N r))
  rw [List.getD, List.getElem?_eq_none (by rw [V.short_length]; omega)]
  simp
theorem lex3_at {A B : List Sn} {i : Nat} (h : A.take i = B.take i) (h1 : i < A.length) (h2 : i < B.length) (hne : A.getD i sn0 ≠ B.getD i sn0) : lex cmp3 A B = cmp3 (A.getD i sn0) (B.getD i sn0) := by
 rw [lex_drop cmp3_tot A B i h (by omega) (by omega), List.drop_eq_getElem_cons h1, List.drop_eq_getElem_cons h2]
 have e1 : A.getD i sn0 = A[i] := by simp [List.getD, h1]
 have e2 : B.getD i sn0 = B[i] := by simp [List.getD, h2]
 rw [e1, e2] at hne
 rw [e1, e2, lex, if_neg (fun e => hne ((cmp3_tot.eq _ _).1 e))]
theorem take_snocQ {A B : List Sn} {i : Nat} (h : A.take i = B.take i) (h1 : i < A.length) (h2 : i < B.length) (he : A.getD i sn0 = B.getD i sn0) : A.take (i + 1) = B.take (i + 1) := by
 have e1 : A.getD i sn0 = A[i] := by simp [List.getD, h1]
 have e2 : B.getD i sn0 = B[i] := by simp [List.getD, h2]
 rw [List.take_succ_eq_append_getElem h1, List.take_succ_eq_append_getElem h2, h, ← e1, ← e2, he]
theorem lex3_end {A B : List Sn} {i : Nat} (h : A.take i = B.take i) (h1 : i ≤ A.length) (h2 : i ≤ B.length) (hi : ¬ (i < A.length ∧ i < B.length)) : lex cmp3 A B = cmpI (A.length : Int) (B.length : Int) := by
 rw [lex_drop cmp3_tot A B i h h1 h2]
 unfold cmpI
 rcases Nat.lt_trichotomy A.length B.length with g | g | g
 ·have : i = A.length := by omega
  subst this
  rw [List.drop_length, List.drop_eq_getElem_cons g, lex, if_pos (by omega)]
 ·have : i = A.length := by omega
  subst this
  rw [List.drop_length, g, List.drop_length, lex, if_neg (by omega), if_neg (by omega)]
 ·have : i = B.length := by omega
  subst this
  rw [List.drop_length, List.drop_eq_getElem_cons g, lex, if_neg (by omega), if_pos (by omega)]
end Go.Proofs.YtmbkmpeongodbaaGreat
