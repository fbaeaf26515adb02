/- EHo -/
import Derived.Test.YtmbkmpeongodbaaGreatTk
import Derived.Test.YtmbkmpeongodbaaGreatAr37
import Derived.Test.YtmbkmpeongodbaaGreatAr32
namespace Go.Proofs.YtmbkmpeongodbaaGreat
open Go.RowKit
attribute [local go_sem ↓] ldP_eq stP_eq ldD_eq stD_eq K.ld28_eq K.st28_eq K.run_eq28
attribute [local go_sem] cells_PV PC_size K.cells_EV K.EC_size K.zero_EC
def noS (L : List K.En) (s : ByteArray) : List K.En := L.filter (fun e => !K.eqS e.sku s)
theorem drop_at {L : List K.En} {k : Nat} (h : k < L.length) : L.drop k = L.getD k K.en0 :: L.drop (k + 1) := by
 rw [List.drop_eq_getElem_cons h]
 simp [List.getD, h]
theorem noS_yes {L : List K.En} {k : Nat} {s : ByteArray} (h : k < L.length) (hs : K.eqS (L.getD k K.en0).sku s = true) : noS (L.drop k) s = noS (L.drop (k + 1)) s := by
 rw [drop_at h, noS, List.filter_cons_of_neg (by rw [hs]; decide)]
 rfl
theorem noS_no {L : List K.En} {k : Nat} {s : ByteArray} (h : k < L.length) (hs : K.eqS (L.getD k K.en0).sku s = false) : noS (L.drop k) s = L.getD k K.en0 :: noS (L.drop (k + 1)) s := by
 rw [drop_at h, noS, List.filter_cons_of_pos (by rw [hs]; rfl)]
 rfl
theorem noS_end {L : List K.En} {k : Nat} {s : ByteArray} (h : L.length ≤ k) : noS (L.drop k) s = [] := by
 rw [List.drop_eq_nil_of_le h]
 rfl
theorem en_f2 {w : World} {p : Addr} {e : K.En} (A : K.EnAt w p e) : w.cell? ⟨p.block, p.off + 2, none⟩ = some (.string e.sku) := by
 have h := A.c2
 have hs := World.cell?_spot A.c0
 obtain ⟨b, o, sp⟩ := p
 simp at hs
 subst hs
 rwa [Addr.add_lit] at h
set_option maxRecDepth 100000 in
set_option maxHeartbeats 6400000 in
theorem others_any (ao bo : Option Addr) (n m ca cb : Nat) (A B : List K.En) (s : ByteArray) (w : World) (hA : K.ESrc w ao n ca A) (hB : K.ESrc w bo m cb B) (hE : noS A s = noS B s) :
  Calls Tryz.prog 17 #[.slice ao n ca, .slice bo m cb, .string s] w fun e w' => e = .returned (.bool true) ∧ Below w.heap.size w w' := by
 have HA := hide hA
 have HB := hide hB
 have hn := hA.2.2.2.2
 have hm := hB.2.2.2.2
 have HL : Hid (A.length = n ∧ B.length = m) := ⟨hA.1, hB.1⟩
 have HE := hide hE
 clear hA hB hE
 go_enter Tryz.func17, Tryz.ntmps17
 go_wp2_with fail
 go_loopw [7, 8] (fun i j wr => ∃ k l : Nat, k ≤ n ∧ l ≤ m ∧ i = .int .i64 k ∧ j = .int .i64 l ∧ Hid (noS (A.drop k) s = noS (B.drop l) s ∧ Below w.heap.size w wr)) (fun i _ _ => n - (intOf i).toNat)
 case atStart => exact ⟨0, 0, Nat.zero_le _, Nat.zero_le _, rfl, rfl, by rw [List.drop_zero, List.drop_zero]; exact HE.out, Below.refl _ _⟩
 case round =>
  obtain ⟨k, l, hk, hl, rfl, rfl, HK⟩ := hrel
  rename World => wr
  have HKn := hide hk
  go_wp2_with fail
  go_loopw [7] (fun i wx => ∃ k2 : Nat, k ≤ k2 ∧ k2 ≤ n ∧ i = .int .i64 k2 ∧ Hid (noS (A.drop k2) s = noS (B.drop l) s ∧ Below w.heap.size w wx)) (fun i _ => n - (intOf i).toNat)
  case atStart => exact ⟨k, Nat.le_refl _, hk, rfl, HK.out⟩
  case round =>
   obtain ⟨k2, hkk, hk2, rfl, HK2⟩ := hrel
   rename World => wx
   clear HK
   by_cases hlt : k2 < n
   ·obtain ⟨ad, rfl, A0⟩ := (HA.out.below HK2.out.2).at k2 hlt
    obtain ⟨x, Hx⟩ : ∃ x, Hid (A.getD k2 K.en0 = x) := ⟨_, rfl⟩
    rw [Hx.out] at A0
    have c1 := en_f2 A0
    have HAx := hide A0
    cases hq : (x.sku.toList == s.toList) with
    | true =>
     have HN : Hid (noS (A.drop (k2 + 1)) s = noS (B.drop l) s) := by
      show _ = _
      rw [← noS_yes (by have := HL.out.1; omega) (by rw [Hx.out]; exact hq)]; exact HK2.out.1
     have hlti : (k2 : Int) < (n : Int) := by omega
     clear A0
     go_wp2_with fail
     go_roundw
     case rel => exact ⟨k2 + 1, by omega, by omega, by simp, HN.out, HK2.out.2⟩
     case measure => simp [intOf]; omega
    | false =>
     have hlti : (k2 : Int) < (n : Int) := by omega
     have HN : Hid (x :: noS (A.drop (k2 + 1)) s = noS (B.drop l) s) := by
      show _ = _
      rw [← HK2.out.1, noS_no (k := k2) (by have := HL.out.1; omega) (by rw [Hx.out]; exact hq), Hx.out]
     clear A0
     go_wp2_with fail
     clear c1 hq
     go_loopw [8] (fun i wy => ∃ l2 : Nat, l ≤ l2 ∧ l2 ≤ m ∧ i = .int .i64 l2 ∧ Hid (noS (B.drop l2) s = noS (B.drop l) s ∧ Below w.heap.size w wy)) (fun i _ => m - (intOf i).toNat)
     case atStart => exact ⟨l, Nat.le_refl _, hl, rfl, rfl, HK2.out.2⟩
     case round =>
      obtain ⟨l2, hll, hl2, rfl, HK3⟩ := hrel
      rename World => wy
      by_cases hmt : l2 < m
      ·obtain ⟨bd, rfl, B0⟩ := (HB.out.below HK3.out.2).at l2 hmt
       obtain ⟨y, Hy⟩ : ∃ y, Hid (B.getD l2 K.en0 = y) := ⟨_, rfl⟩
       rw [Hy.out] at B0
       have c2 := en_f2 B0
       have HBy := hide B0
       have hmti : (l2 : Int) < (m : Int) := by omega
       cases hp : (y.sku.toList == s.toList) with
       | true =>
        have HM : Hid (noS (B.drop (l2 + 1)) s = noS (B.drop l) s) := by
         show _ = _
         rw [← noS_yes (by have := HL.out.2; omega) (by rw [Hy.out]; exact hp)]; exact HK3.out.1
        clear B0
        go_wp2_with fail
        go_roundw
        case rel => exact ⟨l2 + 1, by omega, by omega, by simp, HM.out, HK3.out.2⟩
        case measure => simp [intOf]; omega
       | false =>
        have HM : Hid (y :: noS (B.drop (l2 + 1)) s = noS (B.drop l) s) := by
         show _ = _
         rw [← HK3.out.1, noS_no (k := l2) (by have := HL.out.2; omega) (by rw [Hy.out]; exact hp), Hy.out]
        have hxy := HN.out.trans HM.out.symm
        obtain ⟨rfl, hrest⟩ := List.cons.inj hxy
        have HR := hide hrest
        have hne1 : ((k2 : Int) == (n : Int)) = false := by simp; omega
        have hne2 : ((l2 : Int) == (m : Int)) = false := by simp; omega
        have HAy : Hid (K.EnAt wy (ad.add (k2 * 4)) x) := by
         obtain ⟨ad2, e2, A2⟩ := (HA.out.below HK3.out.2).at k2 hlt
         obtain rfl := Option.some.inj e2
         rw [Hx.out] at A2
         exact A2
        clear B0 hxy hrest
        go_upto_region 8 with fail
        clear c2 hp hne1 hne2
        refine wp_region_held_drew (S := fun v => (K.ld28 (.pointer (some (ad.add (k2 * 4))))).run Tryz.prog v = .ok (K.EV x) v ∧ (K.ld28 (.pointer (some (bd.add (l2 * 4))))).run Tryz.prog v = .ok (K.EV x) v) (by kernel_rfl) (⟨K.run_ld28 (HAy.out.on (below_drew1 wy)), K.run_ld28 (HBy.out.on (below_drew1 wy))⟩) (fun hHeld => ?_)
        refine wTk 0 ⟨some 59, .move (.tmp 0), 22, "outright.go:28", #[], none⟩ rfl ?_
        refine wTk 1 ⟨some 60, .move (.tmp 7), 3, "outright.go:28", #[], none⟩ rfl ?_
        refine wTk 2 ⟨some 61, .indexAddr 22 (.tmp 59) (.tmp 60), 0, "outright.go:28", #[⟨0, .data⟩, ⟨1, .data⟩], none⟩ rfl ?_
        refine wTk 3 ⟨some 62, .load 46 (.tmp 61), 46, "outright.go:28", #[⟨2, .data⟩], none⟩ rfl ?_
        refine wTk 4 ⟨some 63, .move (.tmp 1), 22, "outright.go:28", #[], none⟩ rfl ?_
        refine wTk 5 ⟨some 64, .move (.tmp 8), 3, "outright.go:28", #[], none⟩ rfl ?_
        refine wTk 6 ⟨some 65, .indexAddr 22 (.tmp 63) (.tmp 64), 0, "outright.go:28", #[⟨4, .data⟩, ⟨5, .data⟩], none⟩ rfl ?_
        refine wTk 7 ⟨some 66, .load 46 (.tmp 65), 46, "outright.go:28", #[⟨6, .data⟩], none⟩ rfl ?_
        have hee : K.eqE x x = true := K.eqE_self x
        refine wTk 8 ⟨some 67, .binOp .neq 46 (.tmp 62) (.tmp 66) 46, 4, "outright.go:28", #[⟨3, .data⟩, ⟨7, .data⟩], none⟩ rfl ?_
        refine wpAnyH_done (by kernel_rfl) ?_ _
        clear hHeld
        have HBd := hide (HK3.out.2.trans ((below_drew1 wy).mono HK3.out.2.size))
        go_wp2_with fail
        go_roundw
        case rel => exact ⟨k2 + 1, l2 + 1, by omega, by omega, by simp, by simp, HR.out, HBd.out⟩
        case measure => simp [intOf]; omega
      ·have hmti : ¬ (l2 : Int) < (m : Int) := by omega
       obtain rfl : l2 = m := by omega
       have HM : Hid (noS (B.drop l) s = []) := by
        show _ = _
        rw [← HK3.out.1]; exact noS_end (by have := HL.out.2; omega)
       exact absurd (HN.out.trans HM.out) (by simp)
   ·have hlti : ¬ (k2 : Int) < (n : Int) := by omega
    obtain rfl : k2 = n := by omega
    have HN : Hid (noS (B.drop l) s = []) := by
     show _ = _
     rw [← HK2.out.1]; exact noS_end (by have := HL.out.1; omega)
    go_wp2_with fail
    go_loopw [8] (fun i wy => ∃ l2 : Nat, l ≤ l2 ∧ l2 ≤ m ∧ i = .int .i64 l2 ∧ Hid (noS (B.drop l2) s = noS (B.drop l) s ∧ Below w.heap.size w wy)) (fun i _ => m - (intOf i).toNat)
    case atStart => exact ⟨l, Nat.le_refl _, hl, rfl, rfl, HK2.out.2⟩
    case round =>
     obtain ⟨l2, hll, hl2, rfl, HK3⟩ := hrel
     rename World => wy
     by_cases hmt : l2 < m
     ·obtain ⟨bd, rfl, B0⟩ := (HB.out.below HK3.out.2).at l2 hmt
      obtain ⟨y, Hy⟩ : ∃ y, Hid (B.getD l2 K.en0 = y) := ⟨_, rfl⟩
      rw [Hy.out] at B0
      have c2 := en_f2 B0
      have HBy := hide B0
      have hmti : (l2 : Int) < (m : Int) := by omega
      cases hp : (y.sku.toList == s.toList) with
      | true =>
       have HM : Hid (noS (B.drop (l2 + 1)) s = noS (B.drop l) s) := by
        show _ = _
        rw [← noS_yes (by have := HL.out.2; omega) (by rw [Hy.out]; exact hp)]; exact HK3.out.1
       clear B0
       go_wp2_with fail
       go_roundw
       case rel => exact ⟨l2 + 1, by omega, by omega, by simp, HM.out, HK3.out.2⟩
       case measure => simp [intOf]; omega
      | false =>
       have HM : Hid (y :: noS (B.drop (l2 + 1)) s = noS (B.drop l) s) := by
        show _ = _
        rw [← HK3.out.1, noS_no (k := l2) (by have := HL.out.2; omega) (by rw [Hy.out]; exact hp), Hy.out]
       exact absurd (HM.out.trans HN.out) (by simp)
     ·have hmti : ¬ (l2 : Int) < (m : Int) := by omega
      obtain rfl : l2 = m := by omega
      have HM : Hid (noS (B.drop l) s = []) := by
       show _ = _
       rw [← HK3.out.1]; exact noS_end (by have := HL.out.2; omega)
      have he1 : ((k2 : Int) == (k2 : Int)) = true := by simp
      have he2 : ((l2 : Int) == (l2 : Int)) = true := by simp
      go_wp2_with fail
      go_ret
      exact ⟨rfl, HK3.out.2⟩
def kpB (s : ByteArray) (P : Pst) (e : K.En) : Bool := (decide (s.size = 0) || (e.sku.toList == s.toList)) && inB P e
theorem kpB_yes {s : ByteArray} {P : Pst} {e : K.En} {b : Bool} (h : (decide (s.size = 0) || (e.sku.toList == s.toList)) = true) (hb : BIf b (dotIn P ⟨e.rep, e.num⟩)) : kpB s P e = b := by
 unfold kpB
 rw [h, Bool.true_and]
 have h1 := inB_iff P e
 have h2 := hb.out
 cases hx : inB P e <;> cases b
 ·rfl
 ·rw [hx] at h1; exact absurd (h1.2 (h2.1 rfl)) (by simp)
 ·rw [hx] at h1; have := h2.2 (h1.1 rfl); cases this
 ·rfl
theorem kpB_no {s : ByteArray} {P : Pst} {e : K.En} (h0 : ¬ s.size = 0) (h : (e.sku.toList == s.toList) = false) : kpB s P e = false := by
 unfold kpB
 rw [h, decide_eq_false h0]
 rfl
def ktL (L : List K.En) (s : ByteArray) (P : Pst) : List K.En := L.filter (fun e => !kpB s P e)
theorem ktL_step {L : List K.En} {s : ByteArray} {P : Pst} {k : Nat} (h : k < L.length) : ktL (L.take (k + 1)) s P = ktL (L.take k) s P ++ (if kpB s P (L.getD k K.en0) = true then [] else [L.getD k K.en0]) := by
 rw [K.take_snoc L k h, ktL, List.filter_append]
 congr 1
 cases hq : kpB s P (L.getD k K.en0)
 ·rw [List.filter_cons_of_pos (by rw [hq]; rfl)]; rfl
 ·rw [List.filter_cons_of_neg (by rw [hq]; decide)]; rfl
theorem ktL_split (L : List K.En) (s : ByteArray) (P : Pst) (k : Nat) : ktL L s P = ktL (L.take k) s P ++ ktL (L.drop k) s P := by
 rw [ktL, ktL, ktL, ← List.filter_append, List.take_append_drop]
theorem ktL_at {L : List K.En} {s : ByteArray} {P : Pst} {k : Nat} (h : k < L.length) (hq : kpB s P (L.getD k K.en0) = false) : (ktL (L.take k) s P).length < (ktL L s P).length ∧ (ktL L s P).getD (ktL (L.take k) s P).length K.en0 = L.getD k K.en0 := by
 rw [ktL_split L s P k]
 have e : ktL (L.drop k) s P = L.getD k K.en0 :: ktL (L.drop (k + 1)) s P := by
  rw [drop_at h, ktL, List.filter_cons_of_pos (by rw [hq]; rfl)]
  rfl
 rw [e]
 constructor
 ·simp
 ·simp [List.getD]
set_option maxRecDepth 100000 in
set_option maxHeartbeats 6400000 in
theorem kept_any (ao bo : Option Addr) (n m ca cb : Nat) (L Z : List K.En) (s : ByteArray) (p : Pv) (w : World) (hA : K.ESrc w ao n ca L) (hB : K.ESrc w bo m cb Z) (hP : PSrc w p) (hZ : Z = ktL L s p.P) :
  Calls Tryz.prog 18 #[.slice ao n ca, .slice bo m cb, .string s, PV p] w fun e w' => e = .returned (.bool true) ∧ Below w.heap.size w w' := by
 have HBK := hide (below_new w (.cells (PC p) 26))
 have HX := hide (pbox_new w p)
 obtain ⟨wk, hwk⟩ : ∃ wk, w.alloc (.cells (PC p) 26) = wk := ⟨_, rfl⟩
 obtain ⟨G, hG⟩ : ∃ G, w.heap.size = G := ⟨_, rfl⟩
 have HA := hide (hA.below HBK.out)
 have HB := hide (hB.below HBK.out)
 have HP := hide (hP.below HBK.out)
 have hn := hA.2.2.2.2
 have hm := hB.2.2.2.2
 have HL : Hid (L.length = n ∧ Z.length = m) := ⟨hA.1, hB.1⟩
 have HZ := hide hZ
 rw [hwk] at HBK HX HA HB HP
 rw [hG] at HX
 clear hA hB hP hZ
 go_enter Tryz.func18, Tryz.ntmps18
 go_wp2_with fail
 clear hwk hG
 go_loopw [9, 10] (fun j i wr => ∃ k l : Nat, k ≤ n ∧ j = .int .i64 l ∧ i = .int .i64 k ∧ Hid (l = (ktL (L.take k) s p.P).length ∧ Below wk.heap.size wk wr)) (fun _ i _ => n - (intOf i).toNat)
 case atStart => exact ⟨0, 0, Nat.zero_le _, rfl, rfl, rfl, Below.refl _ _⟩
 case round =>
  obtain ⟨k, l, hk, rfl, rfl, HK⟩ := hrel
  rename World => wr
  by_cases hlt : k < n
  ·obtain ⟨ad, rfl, A0⟩ := (HA.out.below HK.out.2).at k hlt
   obtain ⟨x, Hx⟩ : ∃ x, Hid (L.getD k K.en0 = x) := ⟨_, rfl⟩
   rw [Hx.out] at A0
   have HAx := hide A0
   have HSt := hide (ktL_step (s := s) (P := p.P) (k := k) (L := L) (by have := HL.out.1; omega))
   have HXr := hide (HX.out.below HK.out.2)
   have HPr := hide (HP.out.below HK.out.2)
   have hlti : (k : Int) < (n : Int) := by omega
   rw [Hx.out] at HSt
   clear A0
   by_cases h0 : s.size = 0
   ·have e0 := K.empty_yes s h0
    have HC : Hid ((decide (s.size = 0) || (x.sku.toList == s.toList)) = true) := by show _ = _; rw [decide_eq_true h0, Bool.true_or]
    clear h0
    go_upto_region 5 with fail
    have HKr := hide (HK.out.2.trans ((below_drew1 wr).mono HK.out.2.size))
    refine wp_region_held_drew (S := fun v => v.cell? ⟨(ad.add (k * 4)).block, (ad.add (k * 4)).off + 2, none⟩ = some (.string x.sku) ∧ (ldP (.pointer (some ⟨G, 0, none⟩))).run Tryz.prog v = .ok (PV p) v ∧ (ldD (.pointer (some (ad.add (k * 4))))).run Tryz.prog v = .ok (.agg #[.int .i64 x.rep, .int .i64 x.num]) v) (by kernel_rfl) (⟨en_f2 (HAx.out.on (below_drew1 wr)), run_ldP (HXr.out.below (below_drew1 wr)).at, run_ldD (r := ⟨x.rep, x.num⟩) ⟨(HAx.out.on (below_drew1 wr)).c0, (HAx.out.on (below_drew1 wr)).c1⟩⟩) (fun hHeld => ?_)
    refine wTk 0 ⟨some 17, .move (.tmp 2), 9, "outright.go:40", #[], none⟩ rfl ?_
    refine wTk 1 ⟨some 18, .binOp .eql 9 (.tmp 17) (.const (.string ⟨#[]⟩)) 9, 4, "outright.go:40", #[⟨0, .data⟩], none⟩ rfl ?_
    refine wTk 2 ⟨some 19, .move (.tmp 18), 4, "outright.go:40", #[⟨1, .data⟩], none⟩ rfl ?_
    refine wSk 3 ⟨some 20, .move (.tmp 0), 22, "outright.go:40", #[⟨2, .guard⟩], some (2, false)⟩ rfl ?_
    refine wSk 4 ⟨some 21, .move (.tmp 10), 3, "outright.go:40", #[⟨2, .guard⟩], some (2, false)⟩ rfl ?_
    refine wSk 5 ⟨some 22, .indexAddr 22 (.tmp 20) (.tmp 21), 0, "outright.go:40", #[⟨3, .data⟩, ⟨4, .data⟩, ⟨2, .guard⟩], some (2, false)⟩ rfl ?_
    refine wSk 6 ⟨some 23, .fieldAddr 46 (.tmp 22) 1, 0, "outright.go:40", #[⟨5, .data⟩, ⟨2, .guard⟩], some (2, false)⟩ rfl ?_
    refine wSk 7 ⟨some 24, .load 9 (.tmp 23), 9, "outright.go:40", #[⟨6, .data⟩, ⟨2, .guard⟩], some (2, false)⟩ rfl ?_
    refine wSk 8 ⟨some 25, .move (.tmp 2), 9, "outright.go:40", #[⟨2, .guard⟩], some (2, false)⟩ rfl ?_
    refine wSk 9 ⟨some 26, .binOp .eql 9 (.tmp 24) (.tmp 25) 9, 4, "outright.go:40", #[⟨7, .data⟩, ⟨8, .data⟩, ⟨2, .guard⟩], some (2, false)⟩ rfl ?_
    refine wTk 10 ⟨some 27, .pick (.tmp 19) (.const (.bool true)) (.tmp 26), 4, "outright.go:40", #[⟨2, .data⟩, ⟨9, .data⟩], none⟩ rfl ?_
    refine wTk 11 ⟨some 28, .move (.tmp 27), 4, "outright.go:40", #[⟨10, .data⟩, ⟨2, .chain⟩], none⟩ rfl ?_
    refine wTk 12 ⟨some 29, .load 26 (.tmp 7), 26, "outright.go:40", #[⟨11, .guard⟩], some (11, true)⟩ rfl ?_
    refine wTk 13 ⟨some 30, .move (.tmp 0), 22, "outright.go:40", #[⟨11, .guard⟩], some (11, true)⟩ rfl ?_
    refine wTk 14 ⟨some 31, .move (.tmp 10), 3, "outright.go:40", #[⟨11, .guard⟩], some (11, true)⟩ rfl ?_
    refine wTk 15 ⟨some 32, .indexAddr 22 (.tmp 30) (.tmp 31), 0, "outright.go:40", #[⟨13, .data⟩, ⟨14, .data⟩, ⟨11, .guard⟩], some (11, true)⟩ rfl ?_
    refine wTk 16 ⟨some 33, .fieldAddr 46 (.tmp 32) 0, 0, "outright.go:40", #[⟨15, .data⟩, ⟨11, .guard⟩], some (11, true)⟩ rfl ?_
    refine wTk 17 ⟨some 34, .load 44 (.tmp 33), 44, "outright.go:40", #[⟨16, .data⟩, ⟨11, .guard⟩], some (11, true)⟩ rfl ?_
    refine wpAnyH_ready (rs := [18]) (by kernel_rfl) (by simp) (.cons rfl (fun K hK => ?_) .nil)
    go_simp
    go_wp2_with fail
    refine (pastHas_any p ⟨x.rep, x.num⟩ _ (HPr.out.below (below_drew1 wr))).mono ?_
    rintro e w3 ⟨b, rfl, hb, b3⟩
    have HKb : Hid (kpB s p.P x = b) := kpB_yes HC.out hb
    have HB3 := hide (HKr.out.trans (b3.mono HKr.out.size))
    have HS3 := hide ((below_drew1 wr).trans (b3.mono (below_drew1 wr).size))
    refine hK.out _ _ ⟨en_f2 (HAx.out.on HS3.out), run_ldP (HXr.out.below HS3.out).at, run_ldD (r := ⟨x.rep, x.num⟩) ⟨(HAx.out.on HS3.out).c0, (HAx.out.on HS3.out).c1⟩⟩ (fun hHeld => ?_)
    clear hK K hb b3
    cases b with
    | true =>
     refine wTk 19 ⟨some 36, .pick (.tmp 28) (.tmp 35) (.const (.bool false)), 4, "outright.go:40", #[⟨11, .data⟩, ⟨18, .data⟩], none⟩ rfl ?_
     refine wpAnyH_done (by kernel_rfl) ?_ _
     clear hHeld
     have HNx : Hid (l = (ktL (L.take (k + 1)) s p.P).length) := by
      show _ = _
      rw [HSt.out, HKb.out, HK.out.1]
      simp
     go_wp2_with fail
     go_roundw
     case rel => exact ⟨k + 1, l, by omega, rfl, by simp, HNx.out, HB3.out⟩
     case measure => simp [intOf]; omega
    | false =>
     have HKp := HKb
     refine wTk 19 ⟨some 36, .pick (.tmp 28) (.tmp 35) (.const (.bool false)), 4, "outright.go:40", #[⟨11, .data⟩, ⟨18, .data⟩], none⟩ rfl ?_
     refine wpAnyH_done (by kernel_rfl) ?_ _
     clear hHeld
     have hat := ktL_at (s := s) (P := p.P) (k := k) (L := L) (by have := HL.out.1; omega) (by rw [Hx.out]; exact HKp.out)
     rw [← HZ.out, Hx.out, ← HK.out.1] at hat
     have hlm : l < m := by have := HL.out.2; have := hat.1; omega
     have hge : ¬ (m : Int) ≤ (l : Int) := by omega
     obtain ⟨bd, hbo, B0⟩ := (HB.out.below HB3.out).at l hlm
     subst hbo
     rw [hat.2] at B0
     have HBy := hide B0
     have HAy : Hid (K.EnAt w3 (ad.add (k * 4)) x) := by
      obtain ⟨ad2, e2, A2⟩ := (HA.out.below HB3.out).at k hlt
      obtain rfl := Option.some.inj e2
      rw [Hx.out] at A2
      exact A2
     have HNx : Hid (l + 1 = (ktL (L.take (k + 1)) s p.P).length) := by
      show _ = _
      rw [HSt.out, HKp.out]
      simp [HK.out.1]
     clear B0 hat
     go_upto_region 6 with fail
     clear hge
     refine wp_region_held_drew (S := fun v => (K.ld28 (.pointer (some (bd.add (l * 4))))).run Tryz.prog v = .ok (K.EV x) v ∧ (K.ld28 (.pointer (some (ad.add (k * 4))))).run Tryz.prog v = .ok (K.EV x) v) (by kernel_rfl) (⟨K.run_ld28 (HBy.out.on (below_drew1 w3)), K.run_ld28 (HAy.out.on (below_drew1 w3))⟩) (fun hHeld => ?_)
     have hge : ¬ (m : Int) ≤ (l : Int) := by omega
     refine wTk 0 ⟨some 37, .move (.tmp 9), 3, "outright.go:43", #[], none⟩ rfl ?_
     refine wTk 1 ⟨some 38, .move (.tmp 1), 22, "outright.go:43", #[], none⟩ rfl ?_
     refine wTk 2 ⟨some 39, .call ⟨.builtin .len, #[.tmp 38], #[22]⟩, 3, "outright.go:43", #[⟨1, .data⟩], none⟩ rfl ?_
     refine wTk 3 ⟨some 40, .binOp .geq 3 (.tmp 37) (.tmp 39) 3, 4, "outright.go:43", #[⟨0, .data⟩, ⟨2, .data⟩], none⟩ rfl ?_
     refine wTk 4 ⟨some 41, .move (.tmp 40), 4, "outright.go:43", #[⟨3, .data⟩], none⟩ rfl ?_
     refine wTk 5 ⟨some 42, .move (.tmp 1), 22, "outright.go:43", #[⟨4, .guard⟩], some (4, false)⟩ rfl ?_
     refine wTk 6 ⟨some 43, .move (.tmp 9), 3, "outright.go:43", #[⟨4, .guard⟩], some (4, false)⟩ rfl ?_
     refine wTk 7 ⟨some 44, .indexAddr 22 (.tmp 42) (.tmp 43), 0, "outright.go:43", #[⟨5, .data⟩, ⟨6, .data⟩, ⟨4, .guard⟩], some (4, false)⟩ rfl ?_
     refine wTk 8 ⟨some 45, .load 46 (.tmp 44), 46, "outright.go:43", #[⟨7, .data⟩, ⟨4, .guard⟩], some (4, false)⟩ rfl ?_
     refine wTk 9 ⟨some 46, .move (.tmp 0), 22, "outright.go:43", #[⟨4, .guard⟩], some (4, false)⟩ rfl ?_
     refine wTk 10 ⟨some 47, .move (.tmp 10), 3, "outright.go:43", #[⟨4, .guard⟩], some (4, false)⟩ rfl ?_
     refine wTk 11 ⟨some 48, .indexAddr 22 (.tmp 46) (.tmp 47), 0, "outright.go:43", #[⟨9, .data⟩, ⟨10, .data⟩, ⟨4, .guard⟩], some (4, false)⟩ rfl ?_
     refine wTk 12 ⟨some 49, .load 46 (.tmp 48), 46, "outright.go:43", #[⟨11, .data⟩, ⟨4, .guard⟩], some (4, false)⟩ rfl ?_
     have hee : K.eqE x x = true := K.eqE_self x
     refine wTk 13 ⟨some 50, .binOp .neq 46 (.tmp 45) (.tmp 49) 46, 4, "outright.go:43", #[⟨8, .data⟩, ⟨12, .data⟩, ⟨4, .guard⟩], some (4, false)⟩ rfl ?_
     refine wTk 14 ⟨some 51, .pick (.tmp 41) (.const (.bool true)) (.tmp 50), 4, "outright.go:43", #[⟨4, .data⟩, ⟨13, .data⟩], none⟩ rfl ?_
     refine wpAnyH_done (by kernel_rfl) ?_ _
     clear hHeld
     have HBd := hide (HB3.out.trans ((below_drew1 w3).mono HB3.out.size))
     go_wp2_with fail
     go_roundw
     case rel => exact ⟨k + 1, l + 1, by omega, by simp, by simp, HNx.out, HBd.out⟩
     case measure => simp [intOf]; omega
   ·have e0 := K.empty_no s h0
    cases hs : (x.sku.toList == s.toList) with
    | true =>
     have HC : Hid ((decide (s.size = 0) || (x.sku.toList == s.toList)) = true) := by show _ = _; rw [hs, Bool.or_true]
     clear h0
     go_upto_region 5 with fail
     have HKr := hide (HK.out.2.trans ((below_drew1 wr).mono HK.out.2.size))
     refine wp_region_held_drew (S := fun v => v.cell? ⟨(ad.add (k * 4)).block, (ad.add (k * 4)).off + 2, none⟩ = some (.string x.sku) ∧ (ldP (.pointer (some ⟨G, 0, none⟩))).run Tryz.prog v = .ok (PV p) v ∧ (ldD (.pointer (some (ad.add (k * 4))))).run Tryz.prog v = .ok (.agg #[.int .i64 x.rep, .int .i64 x.num]) v) (by kernel_rfl) (⟨en_f2 (HAx.out.on (below_drew1 wr)), run_ldP (HXr.out.below (below_drew1 wr)).at, run_ldD (r := ⟨x.rep, x.num⟩) ⟨(HAx.out.on (below_drew1 wr)).c0, (HAx.out.on (below_drew1 wr)).c1⟩⟩) (fun hHeld => ?_)
     refine wTk 0 ⟨some 17, .move (.tmp 2), 9, "outright.go:40", #[], none⟩ rfl ?_
     refine wTk 1 ⟨some 18, .binOp .eql 9 (.tmp 17) (.const (.string ⟨#[]⟩)) 9, 4, "outright.go:40", #[⟨0, .data⟩], none⟩ rfl ?_
     refine wTk 2 ⟨some 19, .move (.tmp 18), 4, "outright.go:40", #[⟨1, .data⟩], none⟩ rfl ?_
     refine wTk 3 ⟨some 20, .move (.tmp 0), 22, "outright.go:40", #[⟨2, .guard⟩], some (2, false)⟩ rfl ?_
     refine wTk 4 ⟨some 21, .move (.tmp 10), 3, "outright.go:40", #[⟨2, .guard⟩], some (2, false)⟩ rfl ?_
     refine wTk 5 ⟨some 22, .indexAddr 22 (.tmp 20) (.tmp 21), 0, "outright.go:40", #[⟨3, .data⟩, ⟨4, .data⟩, ⟨2, .guard⟩], some (2, false)⟩ rfl ?_
     refine wTk 6 ⟨some 23, .fieldAddr 46 (.tmp 22) 1, 0, "outright.go:40", #[⟨5, .data⟩, ⟨2, .guard⟩], some (2, false)⟩ rfl ?_
     refine wTk 7 ⟨some 24, .load 9 (.tmp 23), 9, "outright.go:40", #[⟨6, .data⟩, ⟨2, .guard⟩], some (2, false)⟩ rfl ?_
     refine wTk 8 ⟨some 25, .move (.tmp 2), 9, "outright.go:40", #[⟨2, .guard⟩], some (2, false)⟩ rfl ?_
     refine wTk 9 ⟨some 26, .binOp .eql 9 (.tmp 24) (.tmp 25) 9, 4, "outright.go:40", #[⟨7, .data⟩, ⟨8, .data⟩, ⟨2, .guard⟩], some (2, false)⟩ rfl ?_
     refine wTk 10 ⟨some 27, .pick (.tmp 19) (.const (.bool true)) (.tmp 26), 4, "outright.go:40", #[⟨2, .data⟩, ⟨9, .data⟩], none⟩ rfl ?_
     refine wTk 11 ⟨some 28, .move (.tmp 27), 4, "outright.go:40", #[⟨10, .data⟩, ⟨2, .chain⟩], none⟩ rfl ?_
     refine wTk 12 ⟨some 29, .load 26 (.tmp 7), 26, "outright.go:40", #[⟨11, .guard⟩], some (11, true)⟩ rfl ?_
     refine wTk 13 ⟨some 30, .move (.tmp 0), 22, "outright.go:40", #[⟨11, .guard⟩], some (11, true)⟩ rfl ?_
     refine wTk 14 ⟨some 31, .move (.tmp 10), 3, "outright.go:40", #[⟨11, .guard⟩], some (11, true)⟩ rfl ?_
     refine wTk 15 ⟨some 32, .indexAddr 22 (.tmp 30) (.tmp 31), 0, "outright.go:40", #[⟨13, .data⟩, ⟨14, .data⟩, ⟨11, .guard⟩], some (11, true)⟩ rfl ?_
     refine wTk 16 ⟨some 33, .fieldAddr 46 (.tmp 32) 0, 0, "outright.go:40", #[⟨15, .data⟩, ⟨11, .guard⟩], some (11, true)⟩ rfl ?_
     refine wTk 17 ⟨some 34, .load 44 (.tmp 33), 44, "outright.go:40", #[⟨16, .data⟩, ⟨11, .guard⟩], some (11, true)⟩ rfl ?_
     refine wpAnyH_ready (rs := [18]) (by kernel_rfl) (by simp) (.cons rfl (fun K hK => ?_) .nil)
     go_simp
     go_wp2_with fail
     refine (pastHas_any p ⟨x.rep, x.num⟩ _ (HPr.out.below (below_drew1 wr))).mono ?_
     rintro e w3 ⟨b, rfl, hb, b3⟩
     have HKb : Hid (kpB s p.P x = b) := kpB_yes HC.out hb
     have HB3 := hide (HKr.out.trans (b3.mono HKr.out.size))
     have HS3 := hide ((below_drew1 wr).trans (b3.mono (below_drew1 wr).size))
     refine hK.out _ _ ⟨en_f2 (HAx.out.on HS3.out), run_ldP (HXr.out.below HS3.out).at, run_ldD (r := ⟨x.rep, x.num⟩) ⟨(HAx.out.on HS3.out).c0, (HAx.out.on HS3.out).c1⟩⟩ (fun hHeld => ?_)
     clear hK K hb b3
     cases b with
     | true =>
      refine wTk 19 ⟨some 36, .pick (.tmp 28) (.tmp 35) (.const (.bool false)), 4, "outright.go:40", #[⟨11, .data⟩, ⟨18, .data⟩], none⟩ rfl ?_
      refine wpAnyH_done (by kernel_rfl) ?_ _
      clear hHeld
      have HNx : Hid (l = (ktL (L.take (k + 1)) s p.P).length) := by
       show _ = _
       rw [HSt.out, HKb.out, HK.out.1]
       simp
      go_wp2_with fail
      go_roundw
      case rel => exact ⟨k + 1, l, by omega, rfl, by simp, HNx.out, HB3.out⟩
      case measure => simp [intOf]; omega
     | false =>
      have HKp := HKb
      refine wTk 19 ⟨some 36, .pick (.tmp 28) (.tmp 35) (.const (.bool false)), 4, "outright.go:40", #[⟨11, .data⟩, ⟨18, .data⟩], none⟩ rfl ?_
      refine wpAnyH_done (by kernel_rfl) ?_ _
      clear hHeld
      have hat := ktL_at (s := s) (P := p.P) (k := k) (L := L) (by have := HL.out.1; omega) (by rw [Hx.out]; exact HKp.out)
      rw [← HZ.out, Hx.out, ← HK.out.1] at hat
      have hlm : l < m := by have := HL.out.2; have := hat.1; omega
      have hge : ¬ (m : Int) ≤ (l : Int) := by omega
      obtain ⟨bd, hbo, B0⟩ := (HB.out.below HB3.out).at l hlm
      subst hbo
      rw [hat.2] at B0
      have HBy := hide B0
      have HAy : Hid (K.EnAt w3 (ad.add (k * 4)) x) := by
       obtain ⟨ad2, e2, A2⟩ := (HA.out.below HB3.out).at k hlt
       obtain rfl := Option.some.inj e2
       rw [Hx.out] at A2
       exact A2
      have HNx : Hid (l + 1 = (ktL (L.take (k + 1)) s p.P).length) := by
       show _ = _
       rw [HSt.out, HKp.out]
       simp [HK.out.1]
      clear B0 hat
      go_upto_region 6 with fail
      clear hge
      refine wp_region_held_drew (S := fun v => (K.ld28 (.pointer (some (bd.add (l * 4))))).run Tryz.prog v = .ok (K.EV x) v ∧ (K.ld28 (.pointer (some (ad.add (k * 4))))).run Tryz.prog v = .ok (K.EV x) v) (by kernel_rfl) (⟨K.run_ld28 (HBy.out.on (below_drew1 w3)), K.run_ld28 (HAy.out.on (below_drew1 w3))⟩) (fun hHeld => ?_)
      have hge : ¬ (m : Int) ≤ (l : Int) := by omega
      refine wTk 0 ⟨some 37, .move (.tmp 9), 3, "outright.go:43", #[], none⟩ rfl ?_
      refine wTk 1 ⟨some 38, .move (.tmp 1), 22, "outright.go:43", #[], none⟩ rfl ?_
      refine wTk 2 ⟨some 39, .call ⟨.builtin .len, #[.tmp 38], #[22]⟩, 3, "outright.go:43", #[⟨1, .data⟩], none⟩ rfl ?_
      refine wTk 3 ⟨some 40, .binOp .geq 3 (.tmp 37) (.tmp 39) 3, 4, "outright.go:43", #[⟨0, .data⟩, ⟨2, .data⟩], none⟩ rfl ?_
      refine wTk 4 ⟨some 41, .move (.tmp 40), 4, "outright.go:43", #[⟨3, .data⟩], none⟩ rfl ?_
      refine wTk 5 ⟨some 42, .move (.tmp 1), 22, "outright.go:43", #[⟨4, .guard⟩], some (4, false)⟩ rfl ?_
      refine wTk 6 ⟨some 43, .move (.tmp 9), 3, "outright.go:43", #[⟨4, .guard⟩], some (4, false)⟩ rfl ?_
      refine wTk 7 ⟨some 44, .indexAddr 22 (.tmp 42) (.tmp 43), 0, "outright.go:43", #[⟨5, .data⟩, ⟨6, .data⟩, ⟨4, .guard⟩], some (4, false)⟩ rfl ?_
      refine wTk 8 ⟨some 45, .load 46 (.tmp 44), 46, "outright.go:43", #[⟨7, .data⟩, ⟨4, .guard⟩], some (4, false)⟩ rfl ?_
      refine wTk 9 ⟨some 46, .move (.tmp 0), 22, "outright.go:43", #[⟨4, .guard⟩], some (4, false)⟩ rfl ?_
      refine wTk 10 ⟨some 47, .move (.tmp 10), 3, "outright.go:43", #[⟨4, .guard⟩], some (4, false)⟩ rfl ?_
      refine wTk 11 ⟨some 48, .indexAddr 22 (.tmp 46) (.tmp 47), 0, "outright.go:43", #[⟨9, .data⟩, ⟨10, .data⟩, ⟨4, .guard⟩], some (4, false)⟩ rfl ?_
      refine wTk 12 ⟨some 49, .load 46 (.tmp 48), 46, "outright.go:43", #[⟨11, .data⟩, ⟨4, .guard⟩], some (4, false)⟩ rfl ?_
      have hee : K.eqE x x = true := K.eqE_self x
      refine wTk 13 ⟨some 50, .binOp .neq 46 (.tmp 45) (.tmp 49) 46, 4, "outright.go:43", #[⟨8, .data⟩, ⟨12, .data⟩, ⟨4, .guard⟩], some (4, false)⟩ rfl ?_
      refine wTk 14 ⟨some 51, .pick (.tmp 41) (.const (.bool true)) (.tmp 50), 4, "outright.go:43", #[⟨4, .data⟩, ⟨13, .data⟩], none⟩ rfl ?_
      refine wpAnyH_done (by kernel_rfl) ?_ _
      clear hHeld
      have HBd := hide (HB3.out.trans ((below_drew1 w3).mono HB3.out.size))
      go_wp2_with fail
      go_roundw
      case rel => exact ⟨k + 1, l + 1, by omega, by simp, by simp, HNx.out, HBd.out⟩
      case measure => simp [intOf]; omega
    | false =>
     have HKp : Hid (kpB s p.P x = false) := kpB_no h0 hs
     clear h0
     go_upto_region 5 with fail
     have HKr := hide (HK.out.2.trans ((below_drew1 wr).mono HK.out.2.size))
     refine wp_region_held_drew (S := fun v => v.cell? ⟨(ad.add (k * 4)).block, (ad.add (k * 4)).off + 2, none⟩ = some (.string x.sku) ∧ (ldP (.pointer (some ⟨G, 0, none⟩))).run Tryz.prog v = .ok (PV p) v ∧ (ldD (.pointer (some (ad.add (k * 4))))).run Tryz.prog v = .ok (.agg #[.int .i64 x.rep, .int .i64 x.num]) v) (by kernel_rfl) (⟨en_f2 (HAx.out.on (below_drew1 wr)), run_ldP (HXr.out.below (below_drew1 wr)).at, run_ldD (r := ⟨x.rep, x.num⟩) ⟨(HAx.out.on (below_drew1 wr)).c0, (HAx.out.on (below_drew1 wr)).c1⟩⟩) (fun hHeld => ?_)
     refine wTk 0 ⟨some 17, .move (.tmp 2), 9, "outright.go:40", #[], none⟩ rfl ?_
     refine wTk 1 ⟨some 18, .binOp .eql 9 (.tmp 17) (.const (.string ⟨#[]⟩)) 9, 4, "outright.go:40", #[⟨0, .data⟩], none⟩ rfl ?_
     refine wTk 2 ⟨some 19, .move (.tmp 18), 4, "outright.go:40", #[⟨1, .data⟩], none⟩ rfl ?_
     refine wTk 3 ⟨some 20, .move (.tmp 0), 22, "outright.go:40", #[⟨2, .guard⟩], some (2, false)⟩ rfl ?_
     refine wTk 4 ⟨some 21, .move (.tmp 10), 3, "outright.go:40", #[⟨2, .guard⟩], some (2, false)⟩ rfl ?_
     refine wTk 5 ⟨some 22, .indexAddr 22 (.tmp 20) (.tmp 21), 0, "outright.go:40", #[⟨3, .data⟩, ⟨4, .data⟩, ⟨2, .guard⟩], some (2, false)⟩ rfl ?_
     refine wTk 6 ⟨some 23, .fieldAddr 46 (.tmp 22) 1, 0, "outright.go:40", #[⟨5, .data⟩, ⟨2, .guard⟩], some (2, false)⟩ rfl ?_
     refine wTk 7 ⟨some 24, .load 9 (.tmp 23), 9, "outright.go:40", #[⟨6, .data⟩, ⟨2, .guard⟩], some (2, false)⟩ rfl ?_
     refine wTk 8 ⟨some 25, .move (.tmp 2), 9, "outright.go:40", #[⟨2, .guard⟩], some (2, false)⟩ rfl ?_
     refine wTk 9 ⟨some 26, .binOp .eql 9 (.tmp 24) (.tmp 25) 9, 4, "outright.go:40", #[⟨7, .data⟩, ⟨8, .data⟩, ⟨2, .guard⟩], some (2, false)⟩ rfl ?_
     refine wTk 10 ⟨some 27, .pick (.tmp 19) (.const (.bool true)) (.tmp 26), 4, "outright.go:40", #[⟨2, .data⟩, ⟨9, .data⟩], none⟩ rfl ?_
     refine wTk 11 ⟨some 28, .move (.tmp 27), 4, "outright.go:40", #[⟨10, .data⟩, ⟨2, .chain⟩], none⟩ rfl ?_
     refine wSk 12 ⟨some 29, .load 26 (.tmp 7), 26, "outright.go:40", #[⟨11, .guard⟩], some (11, true)⟩ rfl ?_
     refine wSk 13 ⟨some 30, .move (.tmp 0), 22, "outright.go:40", #[⟨11, .guard⟩], some (11, true)⟩ rfl ?_
     refine wSk 14 ⟨some 31, .move (.tmp 10), 3, "outright.go:40", #[⟨11, .guard⟩], some (11, true)⟩ rfl ?_
     refine wSk 15 ⟨some 32, .indexAddr 22 (.tmp 30) (.tmp 31), 0, "outright.go:40", #[⟨13, .data⟩, ⟨14, .data⟩, ⟨11, .guard⟩], some (11, true)⟩ rfl ?_
     refine wSk 16 ⟨some 33, .fieldAddr 46 (.tmp 32) 0, 0, "outright.go:40", #[⟨15, .data⟩, ⟨11, .guard⟩], some (11, true)⟩ rfl ?_
     refine wSk 17 ⟨some 34, .load 44 (.tmp 33), 44, "outright.go:40", #[⟨16, .data⟩, ⟨11, .guard⟩], some (11, true)⟩ rfl ?_
     refine wSk 18 ⟨some 35, .call ⟨.value (.func 53), #[.tmp 29, .tmp 34], #[26, 44]⟩, 4, "outright.go:40", #[⟨12, .data⟩, ⟨17, .data⟩, ⟨11, .chain⟩, ⟨11, .guard⟩], some (11, true)⟩ rfl ?_
     refine wTk 19 ⟨some 36, .pick (.tmp 28) (.tmp 35) (.const (.bool false)), 4, "outright.go:40", #[⟨11, .data⟩, ⟨18, .data⟩], none⟩ rfl ?_
     refine wpAnyH_done (by kernel_rfl) ?_ _
     clear hHeld
     obtain ⟨w3, hw3⟩ : ∃ w3, wr.drew = w3 := ⟨_, rfl⟩
     rw [hw3] at HKr ⊢
     clear hw3
     have hat := ktL_at (s := s) (P := p.P) (k := k) (L := L) (by have := HL.out.1; omega) (by rw [Hx.out]; exact HKp.out)
     rw [← HZ.out, Hx.out, ← HK.out.1] at hat
     have hlm : l < m := by have := HL.out.2; have := hat.1; omega
     have hge : ¬ (m : Int) ≤ (l : Int) := by omega
     obtain ⟨bd, hbo, B0⟩ := (HB.out.below HKr.out).at l hlm
     subst hbo
     rw [hat.2] at B0
     have HBy := hide B0
     have HAy : Hid (K.EnAt w3 (ad.add (k * 4)) x) := by
      obtain ⟨ad2, e2, A2⟩ := (HA.out.below HKr.out).at k hlt
      obtain rfl := Option.some.inj e2
      rw [Hx.out] at A2
      exact A2
     have HNx : Hid (l + 1 = (ktL (L.take (k + 1)) s p.P).length) := by
      show _ = _
      rw [HSt.out, HKp.out]
      simp [HK.out.1]
     clear B0 hat
     go_upto_region 6 with fail
     clear hge
     refine wp_region_held_drew (S := fun v => (K.ld28 (.pointer (some (bd.add (l * 4))))).run Tryz.prog v = .ok (K.EV x) v ∧ (K.ld28 (.pointer (some (ad.add (k * 4))))).run Tryz.prog v = .ok (K.EV x) v) (by kernel_rfl) (⟨K.run_ld28 (HBy.out.on (below_drew1 w3)), K.run_ld28 (HAy.out.on (below_drew1 w3))⟩) (fun hHeld => ?_)
     have hge : ¬ (m : Int) ≤ (l : Int) := by omega
     refine wTk 0 ⟨some 37, .move (.tmp 9), 3, "outright.go:43", #[], none⟩ rfl ?_
     refine wTk 1 ⟨some 38, .move (.tmp 1), 22, "outright.go:43", #[], none⟩ rfl ?_
     refine wTk 2 ⟨some 39, .call ⟨.builtin .len, #[.tmp 38], #[22]⟩, 3, "outright.go:43", #[⟨1, .data⟩], none⟩ rfl ?_
     refine wTk 3 ⟨some 40, .binOp .geq 3 (.tmp 37) (.tmp 39) 3, 4, "outright.go:43", #[⟨0, .data⟩, ⟨2, .data⟩], none⟩ rfl ?_
     refine wTk 4 ⟨some 41, .move (.tmp 40), 4, "outright.go:43", #[⟨3, .data⟩], none⟩ rfl ?_
     refine wTk 5 ⟨some 42, .move (.tmp 1), 22, "outright.go:43", #[⟨4, .guard⟩], some (4, false)⟩ rfl ?_
     refine wTk 6 ⟨some 43, .move (.tmp 9), 3, "outright.go:43", #[⟨4, .guard⟩], some (4, false)⟩ rfl ?_
     refine wTk 7 ⟨some 44, .indexAddr 22 (.tmp 42) (.tmp 43), 0, "outright.go:43", #[⟨5, .data⟩, ⟨6, .data⟩, ⟨4, .guard⟩], some (4, false)⟩ rfl ?_
     refine wTk 8 ⟨some 45, .load 46 (.tmp 44), 46, "outright.go:43", #[⟨7, .data⟩, ⟨4, .guard⟩], some (4, false)⟩ rfl ?_
     refine wTk 9 ⟨some 46, .move (.tmp 0), 22, "outright.go:43", #[⟨4, .guard⟩], some (4, false)⟩ rfl ?_
     refine wTk 10 ⟨some 47, .move (.tmp 10), 3, "outright.go:43", #[⟨4, .guard⟩], some (4, false)⟩ rfl ?_
     refine wTk 11 ⟨some 48, .indexAddr 22 (.tmp 46) (.tmp 47), 0, "outright.go:43", #[⟨9, .data⟩, ⟨10, .data⟩, ⟨4, .guard⟩], some (4, false)⟩ rfl ?_
     refine wTk 12 ⟨some 49, .load 46 (.tmp 48), 46, "outright.go:43", #[⟨11, .data⟩, ⟨4, .guard⟩], some (4, false)⟩ rfl ?_
     have hee : K.eqE x x = true := K.eqE_self x
     refine wTk 13 ⟨some 50, .binOp .neq 46 (.tmp 45) (.tmp 49) 46, 4, "outright.go:43", #[⟨8, .data⟩, ⟨12, .data⟩, ⟨4, .guard⟩], some (4, false)⟩ rfl ?_
     refine wTk 14 ⟨some 51, .pick (.tmp 41) (.const (.bool true)) (.tmp 50), 4, "outright.go:43", #[⟨4, .data⟩, ⟨13, .data⟩], none⟩ rfl ?_
     refine wpAnyH_done (by kernel_rfl) ?_ _
     clear hHeld
     have HBd := hide (HKr.out.trans ((below_drew1 w3).mono HKr.out.size))
     go_wp2_with fail
     go_roundw
     case rel => exact ⟨k + 1, l + 1, by omega, by simp, by simp, HNx.out, HBd.out⟩
     case measure => simp [intOf]; omega
  ·have hlti : ¬ (k : Int) < (n : Int) := by omega
   obtain rfl : k = n := by omega
   have hlm : l = m := by
    rw [HK.out.1, List.take_of_length_le (by have := HL.out.1; omega), ← HZ.out]; exact HL.out.2
   subst hlm
   have he1 : ((l : Int) == (l : Int)) = true := by simp
   have HBf := hide (HBK.out.trans (HK.out.2.mono HBK.out.size))
   go_wp2_with fail
   go_ret
   exact ⟨rfl, HBf.out⟩
end Go.Proofs.YtmbkmpeongodbaaGreat

