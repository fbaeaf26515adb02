/- barrowref04.Dots, at most twelve: they can be read. -/
import Derived.Test.YtfpmijfcemopoaaGreatKb10
import Derived.Test.YtfpmijfcemopoaaGreatKb18
import Derived.Test.YtfpmijfcemopoaaGreatKb35
import Derived.Test.YtfpmijfcemopoaaGreatKf01
import Derived.Lib.MinMax
namespace Go.Proofs.YtfpmijfcemopoaaGreat
open Go.RowKit
attribute [local go_sem ↓] ldP_eq stP_eq ldJ_eq stJ_eq ldD_eq stD_eq bldD_eq run_bldD
attribute [local go_sem] zeros_JA cells_JAv zero_PC cells_PV fold_PC PC_size cells_agg
def DoA (w w' : World) (x : Ending) : Prop := ∃ ao n c D b, x = .returned (.tuple #[.slice ao n c, .bool b]) ∧ RSrc w' ao n c D ∧ n ≤ 12 ∧ Below w.heap.size w w' ∧ ∀ ad, ao = some ad → w.heap.size ≤ ad.block
def DoI (w W : World) (ao : Option Addr) (l c : Nat) : Prop := ∃ acc, acc.length = l ∧ OwnD w.heap.size w.heap.size w W ao c acc
theorem DoI.below {w W : World} {ao : Option Addr} {l c : Nat} (h : DoI w W ao l c) : Below w.heap.size w W := by
 obtain ⟨acc, -, O⟩ := h
 exact O.below
theorem DoI.done {v w W : World} {ao : Option Addr} {l c : Nat} (h : DoI w W ao l c) (hb : Below v.heap.size v w) (hl : l ≤ 12) (b : Bool) : DoA v W (.returned (.tuple #[.slice ao l c, .bool b])) := by
 obtain ⟨acc, rfl, O⟩ := h
 exact ⟨ao, acc.length, c, acc, b, rfl, (O.src (by omega)).1, hl, hb.trans (O.below.mono hb.size), fun ad h => Nat.le_trans hb.size ((O.src (by omega)).2 ad h)⟩
set_option maxRecDepth 100000 in
set_option maxHeartbeats 3200000 in
theorem dots12_any (a : Pv) (w : World) (hS : PSrc w a) : Calls Tryz.prog 38 #[PV a, .int .i64 12] w fun x w' => DoA w w' x := by
 have b1 := below_new w (.cells (PC a) 27)
 have HX := hide (pbox_new w a)
 have HB := hide b1
 have HS := hide (hS.below b1)
 clear b1 hS
 obtain ⟨wk, hwk⟩ : ∃ wk, w.alloc (.cells (PC a) 27) = wk := ⟨_, rfl⟩
 obtain ⟨G, hG⟩ : ∃ G, w.heap.size = G := ⟨_, rfl⟩
 rw [hwk] at HX HB HS
 rw [hG] at HX
 have l1 := run_ldP HX.out.at
 have hmm : min (max (12 : Int) 0) 10000 = 12 := by decide
 go_enter Tryz.func38, Tryz.ntmps38
 go_wp2_with fail
 clear hwk hG l1 hmm
 refine (one_any a _ HS.out).mono ?_
 rintro e w3 ⟨T, N, rfl, hT, b3⟩
 obtain ⟨g, hg⟩ : ∃ g, w3.heap.size = g := ⟨_, rfl⟩
 have X4 := isets_new w3 102 (fun _ => si0)
 rw [hg] at X4
 have hst := run_stJ (F' := T) X4
 have X5 := ISets.setRow (F' := T) X4
 have b5 : Below w3.heap.size w3 ((w3.alloc (.cells (JA fun _ => si0) 102)).setRow g (JA T)) := below_setRow (below_new w3 _) (by omega)
 obtain ⟨w5, hw5⟩ : ∃ w5, (w3.alloc (.cells (JA fun _ => si0) 102)).setRow g (JA T) = w5 := ⟨_, rfl⟩
 rw [hw5] at hst X5 b5
 have HX5 := hide X5
 have HT : Hid (∀ r, r < 16 → V.Src w5 (T r).ao (T r).n (T r).cap (tn (N r)) ∧ form 1 (N r)) := fun r hr => ⟨(hT r hr).1.below b5, (hT r hr).2.2.1⟩
 have HB5 : Hid (Below w.heap.size w w5) := HB.out.trans ((b3.trans (b5.mono b3.size)).mono HB.out.size)
 clear X4 X5 b3 b5 hT hw5
 go_wp2_with fail
 clear hst hg
 go_loopw [7, 8] (fun v i wr => ∃ (y : Nat) (ap : Option Addr) (l c : Nat), y ≤ 16 ∧ v = .slice ap l c ∧ i = .int .i64 (y : Int) ∧ l ≤ 12 ∧ Hid (DoI w5 wr ap l c)) (fun _ i _ => 16 - (intOf i).toNat)
 case atStart => exact ⟨0, none, 0, 0, Nat.zero_le _, rfl, rfl, Nat.zero_le _, ⟨[], rfl, World.ownsRow_nil _ _ _ _, Below.refl _ _, Nat.le_refl _, Nat.le_refl _⟩⟩
 case round =>
  obtain ⟨y, ap, l, c, hy16, rfl, rfl, hl, HI⟩ := hrel
  rename World => wr
  have y0 : (0 : Int) ≤ (y : Int) := by omega
  by_cases hy : y < 16
  ·have y1 : (y : Int) < 16 := by omega
   have HF := hide (HT.out y hy).2
   have HSR := hide (HT.out y hy).1
   have HCy : Hid (∀ W, Below w5.heap.size w5 W → W.cell? ⟨g, y, none⟩ = some (.slice (T y).ao (T y).n (T y).cap)) := fun W hW => (HX5.out.below hW).cell y hy
   obtain ⟨sa, sn, sc, hf⟩ : ∃ sa sn sc, (T y).ao = sa ∧ (T y).n = sn ∧ (T y).cap = sc := ⟨_, _, _, rfl, rfl, rfl⟩
   rw [hf.1, hf.2.1, hf.2.2] at HSR HCy
   have hsb : sn ≤ 1000000002 := by
    have h1 := HSR.out.1
    rw [tn_length] at h1
    have h2 := form_small (Int.le_refl _) HF.out
    omega
   have Hy := hide hy
   clear hf
   go_wp2_with fail
   go_loopw [7, 9] (fun v kv wq => ∃ (kk : Nat) (ap : Option Addr) (l c : Nat), kk ≤ sn + 1 ∧ v = .slice ap l c ∧ kv = .int .i64 (kk : Int) ∧ l ≤ 12 ∧ Hid (DoI w5 wq ap l c)) (fun _ kv _ => sn + 1 - (intOf kv).toNat)
   case atStart => exact ⟨0, ap, l, c, Nat.zero_le _, rfl, rfl, hl, HI⟩
   case round =>
    obtain ⟨kk, ap, l, c, hkk, rfl, rfl, hl, HI⟩ := hrel
    rename World => wq
    have c0 := HCy.out wq HI.out.below
    by_cases hlt : kk + 1 < sn
    ·have hk1 : (kk : Int) + 1 < (sn : Int) := by omega
     have hk0 : (kk : Int) < (sn : Int) := by omega
     have hkp : (0 : Int) ≤ (kk : Int) + 1 := by omega
     obtain ⟨da, hda, qa⟩ := isrc_at HSR.out kk (by omega)
     obtain ⟨db, hdb, qb⟩ := isrc_at HSR.out (kk + 1) hlt
     have hdd : db = da := Option.some.inj (hdb.symm.trans hda)
     rw [hdd] at qb
     clear hdb hdd
     subst hda
     obtain ⟨dz, hdz, qz⟩ := isrc_at HSR.out 0 (by omega)
     obtain rfl := Option.some.inj hdz
     rw [add_zero] at qz
     have hsp := World.cell?_spot qz
     obtain ⟨db, doff, sp⟩ := da
     have hsp2 : sp = none := hsp
     subst hsp2
     rw [Addr.add_lit] at qa qb
     clear hsp hdz qz
     obtain ⟨x0, Hx0⟩ : ∃ x0, Hid ((tn (N y)).getD kk 0 = x0) := ⟨_, rfl⟩
     obtain ⟨x1, Hx1⟩ : ∃ x1, Hid ((tn (N y)).getD (kk + 1) 0 = x1) := ⟨_, rfl⟩
     have hin : ∀ t, t < sn → 1 ≤ (tn (N y)).getD t 0 ∧ (tn (N y)).getD t 0 ≤ 1000000001 := fun t ht => by
      have hl := HSR.out.1
      have e : (tn (N y)).getD t 0 = (tn (N y))[t]'(by omega) := by simp [List.getD, List.getElem?_eq_getElem (show t < (tn (N y)).length by omega)]
      rw [e]
      exact tn_in HF.out _ (List.getElem_mem _)
     have hx0 := hin kk (by omega)
     have hx1 := hin (kk + 1) hlt
     rw [Hx0.out] at qa hx0
     rw [Hx1.out] at qb hx1
     have HQ : Hid (∀ W, Below w5.heap.size w5 W → W.cell? ⟨g, y, none⟩ = some (.slice (some ⟨db, doff, none⟩) sn sc) ∧ W.cell? ⟨db, doff + kk, none⟩ = some (.int .i64 x0) ∧ W.cell? ⟨db, doff + (kk + 1), none⟩ = some (.int .i64 x1)) := fun W hW => ⟨HCy.out W hW, (hW.cell (World.block_lt_of_cell? _ _ qa)).trans qa, (hW.cell (World.block_lt_of_cell? _ _ qb)).trans qb⟩
     have Hlt := hide hlt
     obtain ⟨-, q0, -⟩ := HQ.out wq HI.out.below
     clear qa qb hin
     go_wp2_with fail
     clear c0 q0
     go_loopw [7, 10] (fun v z wp => ∃ (zz : Int) (ap : Option Addr) (l c : Nat), v = .slice ap l c ∧ z = .int .i64 zz ∧ 1 ≤ zz ∧ zz ≤ 1000000001 ∧ l ≤ 12 ∧ Hid (DoI w5 wp ap l c)) (fun _ z _ => (1000000002 - intOf z).toNat)
     case atStart => exact ⟨x0, ap, l, c, rfl, rfl, hx0.1, hx0.2, hl, HI⟩
     case round =>
      obtain ⟨zz, ap, l, c, rfl, rfl, hz0, hz1, hl, HI⟩ := hrel
      rename World => wp
      obtain ⟨d0, -, d1⟩ := HQ.out wp HI.out.below
      by_cases hzx : zz < x1
      ·by_cases hl12 : l = 12
       ·have hle : ((l : Int) == 12) = true := by simp [hl12]
        have HE := hide (HI.out.done HB5.out hl false)
        go_wp2_with fail
        go_ret2
        exact HE.out
       ·have hle : ((l : Int) == 12) = false := by simp; omega
        obtain ⟨acc, hacc, O⟩ := HI.out
        have HO := hide O
        have Hacc := hide hacc
        clear O hacc
        go_wp2_with (at_builtin; go_loud (refine (HO.out.later (below_new wp _)).appendS [⟨(y : Int), zz⟩] (some ⟨wp.heap.size, 0, none⟩) 1 1 (lit_rsrc wp [⟨(y : Int), zz⟩] _ rfl 47 1 rfl (by omega)) (by have := Hacc.out; omega) rfl (.tmp 54) (.tmp 58) rfl l Hacc.out rfl rfl ?_); intro ao8 c8 w8 O8; have HO8 := hide O8; clear O8)
        clear d0 d1
        go_roundw
        case rel => exact ⟨zz + 1, ao8, l + 1, c8, rfl, rfl, by omega, by omega, by omega, ⟨_, by rw [List.length_append, Hacc.out]; rfl, HO8.out⟩⟩
        case measure => simp [intOf]; omega
      ·go_wp2_with fail
       clear d0 d1
       go_roundw
       case rel => exact ⟨kk + 2, ap, l, c, by have := Hlt.out; omega, rfl, by simp, hl, HI⟩
       case measure => simp [intOf]; have := Hlt.out; omega
    ·have hk1 : ¬ (kk : Int) + 1 < (sn : Int) := by omega
     go_wp2_with fail
     clear c0
     go_roundw
     case rel => exact ⟨y + 1, ap, l, c, Hy.out, rfl, by simp, hl, HI⟩
     case measure => simp [intOf]; have := Hy.out; omega
  ·have y1 : ¬ (y : Int) < 16 := by omega
   have HE := hide (HI.out.done HB5.out hl true)
   go_wp2_with fail
   go_ret2
   exact HE.out
end Go.Proofs.YtfpmijfcemopoaaGreat
