/- OOf ORh BCv LSame BSm TUa BMp BMr BPr BPg TShg -/
import Derived.Test.YtalpnhfoaohhhaaGreatTk
import Derived.Test.YtalpnhfoaohhhaaGreatTu23
import Derived.Test.YtalpnhfoaohhhaaGreatTu22
import Derived.Test.YtalpnhfoaohhhaaGreatTu10
import Derived.Deep.RegionHeldLaw
import Derived.Deep.CutRange
import Derived.Test.YtalpnhfoaohhhaaGreatTu18
import Derived.Test.YtalpnhfoaohhhaaGreatTu17
import Derived.Laws.StructEq
import Derived.Test.YtalpnhfoaohhhaaGreatTu11
import Derived.Sort.KeysCollected
import Derived.Maps.Ext
import Derived.Maps.OwnOps
import Derived.StringKeys
import Derived.Below
import Derived.Maps.AppendAt
import Derived.Laws.OwnMore
import Derived.Test.YtalpnhfoaohhhaaGreatTu07
import Derived.Shelf.Spec.SlicesGrow
import Derived.Test.YtalpnhfoaohhhaaGreatProg
namespace Go.Proofs.YtalpnhfoaohhhaaGreat
open Go.RowKit Go.Lib
attribute [local go_sem ↓] ldP_eq stP_eq ldA_eq stA_eq ldD_eq stD_eq
attribute [local go_sem] zeros_SA cells_SAv zero_PC cells_PV fold_PC PC_size
def okD (d : Rn) : Bool := V.isR d.lo && (decide (1 ≤ d.hi) && decide (d.hi ≤ 1000000000))
def dotsG (C : List Rn) (r : Nat) : List Rn := (C.filter (fun d => okD d && decide (d.lo = (r : Int)))).map (fun d => ⟨d.hi, d.hi⟩)
theorem dotsG_snoc (C : List Rn) (d : Rn) (r : Nat) : dotsG (C ++ [d]) r = if (okD d && decide (d.lo = (r : Int))) = true then dotsG C r ++ [⟨d.hi, d.hi⟩] else dotsG C r := by
 unfold dotsG
 rw [List.filter_append]
 by_cases h : (okD d && decide (d.lo = (r : Int))) = true
 ·rw [if_pos h, List.filter_cons_of_pos (p := fun d : Rn => okD d && decide (d.lo = (r : Int))) h]; simp
 ·rw [if_neg h, List.filter_cons_of_neg (p := fun d : Rn => okD d && decide (d.lo = (r : Int))) h]; simp
theorem dotsG_len (C : List Rn) (r : Nat) : (dotsG C r).length ≤ C.length := by unfold dotsG; rw [List.length_map]; exact List.length_filter_le _ _
theorem dotsG_mem (C : List Rn) (r : Nat) (n : Int) : mem (dotsG C r) n ↔ ∃ d ∈ C, okD d = true ∧ d.lo = (r : Int) ∧ d.hi = n := by
 unfold mem dotsG
 constructor
 ·rintro ⟨h1, h2, x, hx, h3, h4⟩
  obtain ⟨d, hd, rfl⟩ := List.mem_map.1 hx
  obtain ⟨hd1, hd2⟩ := List.mem_filter.1 hd
  simp only [Bool.and_eq_true, decide_eq_true_eq] at hd2
  simp only at h3 h4
  exact ⟨d, hd1, hd2.1, hd2.2, by omega⟩
 ·rintro ⟨d, hd, h1, h2, rfl⟩
  have h3 := h1
  unfold okD at h3
  simp only [Bool.and_eq_true, decide_eq_true_eq] at h3
  exact ⟨h3.2.1, h3.2.2, ⟨d.hi, d.hi⟩, List.mem_map.2 ⟨d, List.mem_filter.2 ⟨hd, by simp [h1, h2]⟩, rfl⟩, Int.le_refl _, Int.le_refl _⟩
theorem canonOf_mem {G G' : Nat → List Rn} {P : Pst} (h : CanonOf G P) (e : ∀ r, r < 16 → ∀ n, mem (G r) n ↔ mem (G' r) n) : CanonOf G' P := by
 obtain ⟨N, hN, hP⟩ := h
 exact ⟨N, fun r hr => ⟨(hN r hr).1, fun n => ((hN r hr).2 n).trans (e r hr n)⟩, hP⟩
theorem cmpD_sub (d : Array Rn) : (compactUpTo d d.size).Sublist d.toList := by
 have h : (compactUpTo d d.size).Sublist ((List.range d.size).map (d[·]!)) := List.filter_sublist.map _
 rwa [range_map_get] at h
theorem bang_atD (d : Array Rn) (i : Nat) (h : i < d.size) : d[i]! = d[i] := getElem!_pos d i h
theorem cmpD_mem (d : Array Rn) (m : Nat) : m ≤ d.size → ∀ j, j < m → d[j]! ∈ compactUpTo d m := by
 induction m with
 | zero => intro _ j hj; omega
 | succ m ih =>
  intro hm j hj
  rw [compactUpTo_succ]
  by_cases e : j = m
  ·subst e
   by_cases hk : keeps d j = true
   ·rw [if_pos hk]; simp
   ·rw [if_neg hk, List.append_nil]
    have hk' : ¬ (j = 0 ∨ d[j]! ≠ d[j - 1]!) := by simpa [keeps] using hk
    have h0 : ¬ j = 0 := fun h => hk' (Or.inl h)
    have h1 : d[j]! = d[j - 1]! := Classical.byContradiction fun h => hk' (Or.inr h)
    rw [h1]
    exact ih (by omega) (j - 1) (by omega)
  ·exact List.mem_append_left _ (ih (by omega) j (by omega))
theorem cmpD_iff (d : Array Rn) (x : Rn) : x ∈ compactUpTo d d.size ↔ x ∈ d.toList := by
 constructor
 ·exact fun h => (cmpD_sub d).mem h
 ·intro h
  obtain ⟨i, hi, rfl⟩ := List.mem_iff_getElem.1 h
  have hi' : i < d.size := by simpa using hi
  have := cmpD_mem d d.size (Nat.le_refl _) i hi'
  rw [bang_atD d i hi'] at this
  simpa using this
structure SI3 (B : Nat) (wb W : World) (F : Nat → Sl) (G : Nat → List Rn) : Prop where
 s : Sets W B F
 o : OwnA (B + 1) W F
 l : ∀ r, r < 16 → (F r).L = G r
 b : Below B wb W
 h : B + 1 ≤ W.heap.size
theorem SI3.on {B : Nat} {wb W W' : World} {F : Nat → Sl} {G : Nat → List Rn} (I : SI3 B wb W F G) (hb : Below W.heap.size W W') : SI3 B wb W' F G :=
 ⟨I.s.below hb, I.o.below hb, I.l, I.b.trans (hb.mono (by have := I.h; omega)), Nat.le_trans I.h hb.size⟩
theorem SI3.congr {B : Nat} {wb W : World} {F : Nat → Sl} {G G' : Nat → List Rn} (I : SI3 B wb W F G) (h : ∀ r, r < 16 → G r = G' r) : SI3 B wb W F G' :=
 ⟨I.s, I.o, fun r hr => (I.l r hr).trans (h r hr), I.b, I.h⟩
theorem SI3.mid {B : Nat} {wb W w2 : World} {F F' : Nat → Sl} {G : Nat → List Rn} (I : SI3 B wb W F G) (h2 : ∀ q, q < W.heap.size → Off F q → w2.heap[q]? = W.heap[q]? ∧ Off F' q) : Sets w2 B F :=
 ((h2 _ (by have := I.h; omega) (I.o.off _ (Or.inl (by omega)))).1).trans I.s
theorem SI3.push {B : Nat} {wb W w2 : World} {F : Nat → Sl} {G : Nat → List Rn} (I : SI3 B wb W F G) (k : Nat) (_ : k < 16) (e : Rn) (n cap2 g : Nat)
  (O2 : OwnA (B + 1) w2 (Fset F k ⟨some ⟨g, 0, none⟩, n + 1, cap2, (F k).L ++ [e]⟩)) (h2 : ∀ q, q < W.heap.size → Off F q → w2.heap[q]? = W.heap[q]? ∧ Off (Fset F k ⟨some ⟨g, 0, none⟩, n + 1, cap2, (F k).L ++ [e]⟩) q) (h3 : W.heap.size < w2.heap.size) (h4 : ∀ n0 w0, n0 ≤ B + 1 → Below n0 w0 W → Below n0 w0 w2) (v : Value) (hv : v = .slice (some ⟨g, 0, none⟩) (n + 1) cap2) :
  SI3 B wb (w2.setCell ⟨B, k, none⟩ v) (Fset F k ⟨some ⟨g, 0, none⟩, n + 1, cap2, (F k).L ++ [e]⟩) (fun r => if r = k then G r ++ [e] else G r) := by
 have hh := I.h
 have other : ∀ q, q ≠ B → (w2.setCell ⟨B, k, none⟩ v).heap[q]? = w2.heap[q]? := fun q hq => by
  simp [World.setCell, Array.getElem?_modify, show ¬ B = q by omega]
 refine ⟨(I.mid h2).set k _ v hv, O2.kept (fun q hq hno => other q (fun e => hno ?_)), fun r hr => ?_, ?_, ?_⟩
 ·rw [e]; exact O2.off _ (Or.inl (by omega))
 ·by_cases h : r = k
  ·subst h; rw [Fset_same, if_pos rfl, ← I.l r hr]
  ·rw [Fset_other _ _ _ _ h, if_neg h, ← I.l r hr]
 ·exact V.below_setCell (h4 _ _ (by omega) I.b) (by simp)
 ·have : (w2.setCell ⟨B, k, none⟩ v).heap.size = w2.heap.size := by simp [World.setCell]
  omega
theorem cloneD_nil (w : World) : Calls Tryz.prog 126 #[.slice none 0 0] w fun e w' => e = .returned (.slice none 0 0) ∧ w' = w := by
 have hnil : (binOp .eql 118 (.slice none 0 0) (.slice none 0 0)).run Tryz.prog w = .ok (.bool true) w := Lib.run_eql_slice_nil_nil w 0 0 Tryz.underlying118
 go_enter Tryz.func126, Tryz.ntmps126
 go_wp2_with fail
 go_ret
 exact ⟨rfl, rfl⟩
theorem sortD0 (ao : Option Addr) (cap : Nat) (w : World) : Calls Tryz.prog 127 #[.slice ao 0 cap, .func (.func 128) #[] #[]] w fun e w' => e = .returned (.tuple #[]) ∧ w' = w := AnyF.slices_SortFunc_none Tryz.sortD ao cap _ w
theorem cloneD_all (ao : Option Addr) (n c : Nat) (D : List Rn) (w : World) (hS : RSrc w ao n c D) :
  Calls Tryz.prog 126 #[.slice ao n c] w fun e w' => ∃ ao c', e = .returned (.slice ao n c') ∧ OwnD w.heap.size w.heap.size w w' ao c' D := by
 cases ao with
 | some ad => exact cloneD_any ad n c D w hS
 | none =>
  obtain ⟨rfl, rfl⟩ := hS.nil rfl
  obtain rfl : D = [] := List.eq_nil_of_length_eq_zero hS.len
  refine (cloneD_nil w).mono ?_
  rintro e w' ⟨rfl, rfl⟩
  exact ⟨none, 0, rfl, World.ownsRow_nil _ _ _ _, Below.refl _ _, Nat.le_refl _, Nat.le_refl _⟩
set_option maxRecDepth 100000 in
set_option maxHeartbeats 8000000 in
theorem pastOfN_any (ao : Option Addr) (n c : Nat) (D : List Rn) (w : World) (hS : RSrc w ao n c D) :
  Calls Tryz.prog 95 #[.slice ao n c] w fun e w' => GivesP w w' e (CanonOf (dotsG D)) := by
 have HB0 := hide (below_new w (.cells (PC pv0) 26))
 have HP0 := hide (pbox_new w pv0)
 have HS := hide (hS.below HB0.out)
 have HD : Hid (D.length = n ∧ n ≤ 8796093022207) := ⟨hS.len, hS.big⟩
 clear hS
 go_enter Tryz.func95, Tryz.ntmps95
 go_wp2_with fail
 refine (cloneD_all ao n c D _ HS.out).mono ?_
 rintro e w2 ⟨ao2, c2, rfl, O2⟩
 have HO2 := hide O2.below
 have hW2 := O2.below.size
 have HW2 : Hid (w.heap.size + 1 ≤ w2.heap.size) := by show _ ≤ _; simpa using hW2
 clear HS hW2
 by_cases hn0 : n = 0
 ·subst hn0
  obtain rfl : D = [] := List.eq_nil_of_length_eq_zero HD.out.1
  have HB2 := hide (HB0.out.trans (HO2.out.mono HB0.out.size))
  have HP2 := hide (HP0.out.below HO2.out)
  clear O2
  go_wp2_with fail
  refine (sortD0 ao2 c2 _).mono ?_
  rintro e w3 ⟨rfl, rfl⟩
  rename World => w3
  obtain ⟨B, hB⟩ : ∃ B, w3.heap.size = B := ⟨_, rfl⟩
  have hI0 : SI3 w3.heap.size w3 (w3.alloc (.cells (SA fun _ => sl0) 95)) (fun _ => sl0) (dotsG []) := ⟨sets_new w3 _, OwnA.nil _ _, fun r _ => rfl, below_new w3 _, by simp⟩
  obtain ⟨w4, hw4⟩ : ∃ w4, w3.alloc (.cells (SA fun _ => sl0) 95) = w4 := ⟨_, rfl⟩
  rw [hw4, hB] at hI0
  have HI := hide hI0
  have HBw : Hid (w3.heap.size = B) := hB
  clear hI0
  go_wp2_with (go_at_call 129; refine (compact1_any _ 0 c2 _ (by omega)).mono ?_; rintro e w5 ⟨rfl, rfl⟩)
  clear hw4 hB
  go_loopw [14] (fun i wr => i = .int .i64 0 ∧ wr = w5) (fun _ _ => 0)
  case atStart => exact ⟨rfl, rfl⟩
  case round =>
   obtain ⟨rfl, hwe⟩ := hrel
   subst hwe
   rename World => w4
   have l9 := run_ldA HI.out.s
   have HSR : Hid (∀ r, r < 16 → RSrc w4 ((fun _ => sl0) r : Sl).ao ((fun _ => sl0) r : Sl).n ((fun _ => sl0) r : Sl).cap ((fun _ => sl0) r : Sl).L) := fun r hr => HI.out.o.src HI.out.h hr (by simp [sl0])
   have b36 := hide HI.out.b
   go_wp2_with fail
   refine (canonical_any (fun _ => sl0) _ HSR.out).mono ?_
   rintro e w8 ⟨p, rfl, S2, n2, b2, c2'⟩
   have b38 : Below w3.heap.size w3 w8 := by rw [HBw.out]; exact b36.out.trans (b2.mono (by have := HI.out.h; omega))
   obtain ⟨s1, e1, e2, e3, e4⟩ := past_end (w := w) (HP2.out.below b38) S2 (n2.mono (by have := HI.out.h; have := HBw.out; have := HW2.out; omega)) (HB2.out.trans (b38.mono HB2.out.size)) (Nat.le_refl _)
   have HE1 := hide e1
   have HE2 : Hid (GivesP w (w8.setRow w.heap.size (PC p)) (.returned (PV p)) (CanonOf (dotsG []))) := ⟨p, rfl, e2, e3, e4, c2'⟩
   clear S2 n2 b2 c2' e1 e2 e3 e4 l9 b38
   go_wp2_with fail
   exact bodyPost_ret (v := PV p) (resP Tryz.results95 rfl HE1.out) rfl HE2.out
 ·obtain ⟨ad2, rfl⟩ : ∃ ad2, ao2 = some ad2 := by
   cases ao2 with
   | some x => exact ⟨x, rfl⟩
   | none => have h1 := (O2.src (by have := HD.out; omega)).1.nil rfl; have h2 := HD.out; omega
  obtain ⟨M2, hb2, hc2, hm2⟩ := O2.mr
  have HM2 := hide M2
  have HBL := hide hb2
  have HC2 : Hid (n ≤ c2 ∧ c2 ≤ maxLen) := ⟨by have := HD.out; omega, hm2⟩
  clear O2 M2 hb2 hc2 hm2
  go_wp2_with fail
  refine (sortD_any ad2 c2 n D.toArray _ HM2.out (by simpa using HD.out.1) HD.out.2).mono ?_
  rintro e w3 ⟨rfl, d', hp, hs, M3, b3⟩
  have hbl : w.heap.size + 1 ≤ ad2.block := by have := HBL.out; simpa using this
  have HB3 := hide (HB0.out.trans ((HO2.out.trans (b3.mono HBL.out)).mono HB0.out.size))
  have HP3 := hide (HP0.out.below (HO2.out.trans (b3.mono HBL.out)))
  have HM3 := hide M3
  have Hbl := hide hbl
  have HMem : Hid (∀ x, x ∈ compactUpTo d' d'.size ↔ x ∈ D) := fun x => by rw [cmpD_iff]; have := hp.mem_iff (a := x); simpa using this
  obtain ⟨B, hB⟩ : ∃ B, w3.heap.size = B := ⟨_, rfl⟩
  have hX4 := sets_new w3 (fun _ => sl0)
  have b34 := below_new w3 (.cells (SA fun _ => sl0) 95)
  have s4 := World.size_alloc w3 (.cells (SA fun _ => sl0) 95)
  obtain ⟨w4, hw4⟩ : ∃ w4, w3.alloc (.cells (SA fun _ => sl0) 95) = w4 := ⟨_, rfl⟩
  rw [hw4] at hX4 b34 s4
  have M4 := M3.on b34
  have HC := hide (compact_any ad2 c2 n d' w4 M4 hs HD.out.2 HC2.out.1 (by have := HC2.out.2; unfold maxLen at this; omega))
  have H4 : Hid (Sets w4 B (fun _ => sl0) ∧ Below w3.heap.size w3 w4 ∧ w4.heap.size = B + 1 ∧ ad2.block < B ∧ w3.heap.size = B) := ⟨hB ▸ hX4, b34, by rw [s4, hB], by have := M3.lt; omega, hB⟩
  clear hp M3 b3 HM2 HBL HO2 HP0 HB0 hbl hX4 b34 s4 M4
  go_wp2_with fail
  clear hw4 hB
  refine HC.out.mono ?_
  rintro e w5 ⟨m, d5, rfl, M5, hm5, hs5, ht5, K5⟩
  obtain ⟨C, hCd⟩ : ∃ C, d5.toList.take m = C := ⟨_, rfl⟩
  have HCm : Hid (C.length = m ∧ m ≤ 8796093022207 ∧ ∀ x, x ∈ C ↔ x ∈ D) := by
   refine ⟨?_, by have := HD.out.2; omega, fun x => ?_⟩
   ·rw [← hCd, List.length_take]; simp; omega
   ·rw [← hCd, ht5]; exact HMem.out x
  have HAt : Hid (∀ t, t < m → RnAt w5 (ad2.add (t * 2)) (C.getD t rn0)) := fun t ht => by
   have A := M5.at t (by omega)
   have e : C.getD t rn0 = d5[t]! := by
    rw [← hCd, List.getD_eq_getElem?_getD, List.getElem?_take, if_pos ht, Array.getElem?_toList, Array.getElem?_eq_getElem (by omega), getElem!_pos d5 t (by omega)]
    rfl
   rw [e]
   exact A
  have HI0 : Hid (SI3 B w5 w5 (fun _ => sl0) (dotsG (C.take 0))) := by
   have h1 := H4.out
   have hk := K5.size
   exact ⟨(K5.block B (by omega) (by omega)).trans h1.1, OwnA.nil _ _, fun r _ => rfl, Below.refl _ _, by omega⟩
  have HK5 := hide K5
  have hmb : m ≤ 8796093022207 := HCm.out.2.1
  clear M5 hm5 hs5 ht5 hCd K5 HC
  go_wp2_with fail
  go_loopw [14] (fun i wr => ∃ (k : Nat) (F : Nat → Sl), k ≤ m ∧ i = .int .i64 (k : Int) ∧ Hid (SI3 B w5 wr F (dotsG (C.take k)))) (fun i _ => m - (intOf i).toNat)
  case atStart => exact ⟨0, _, Nat.zero_le _, rfl, HI0⟩
  case round =>
   obtain ⟨k, F, hk, rfl, HI⟩ := hrel
   rename World => w6
   clear HI0
   by_cases hlt : k < m
   ·have hlti : (k : Int) < (m : Int) := by omega
    obtain ⟨dd, hdd⟩ : ∃ dd, C.getD k rn0 = dd := ⟨_, rfl⟩
    have A5 := HAt.out k hlt
    rw [hdd] at A5
    have hlb : (ad2.add (k * 2)).block < B := by rw [block_add]; exact H4.out.2.2.2.1
    have A0 : RnAt w6 (ad2.add (k * 2)) dd := ⟨(HI.out.b.cell hlb).trans A5.c0, (HI.out.b.cell (by rw [block_add]; exact hlb)).trans A5.c1⟩
    have hld := run_ldD A0
    have HT : Hid (C.take (k + 1) = C.take k ++ [dd]) := by
     show _ = _
     rw [List.take_add_one, ← hdd, List.getD_eq_getElem?_getD, List.getElem?_eq_getElem (by have := HCm.out.1; omega)]
     rfl
    obtain ⟨g7, hg7⟩ : ∃ g7, w6.heap.size = g7 := ⟨_, rfl⟩
    obtain ⟨w7, hst, XD, b7, z7⟩ := madeD w6 dd g7 hg7
    replace hst : (stD (.pointer (some ⟨g7, 0, none⟩)) (RV dd)).run Tryz.prog (w6.alloc (.cells #[.int .i64 0, .int .i64 0] 32)) = .ok () w7 := hst
    have l7 := run_ldD XD.at
    have HX7 := hide XD
    have HI7 := hide (HI.out.on b7)
    have HOC : Hid (Off F g7) := by rw [← hg7]; exact HI.out.o.off w6.heap.size (Or.inr (Nat.le_refl _))
    have HLT : Hid (B + 1 ≤ g7) := by rw [← hg7]; exact HI.out.h
    have HKm : Hid (k + 1 ≤ m) := hlt
    clear A5 A0 XD b7 z7 HI hlt hk hlb hdd
    go_wp2_with fail
    clear hst hg7 hld
    refine (isDotP_any dd _).mono ?_
    rintro e w8 ⟨rfl, b8⟩
    have HI8 := hide (HI7.out.on b8)
    have HX8 := hide (HX7.out.below b8)
    obtain ⟨bb, hbb⟩ : ∃ bb, (V.isR dd.lo && (decide (1 ≤ dd.hi) && decide (dd.hi ≤ 1000000000))) = bb := ⟨_, rfl⟩
    have Hbb : Hid (okD dd = bb) := hbb
    rw [hbb]
    clear b8 HI7 HX7 l7 hbb
    cases bb with
    | false =>
     have HG : Hid (SI3 B w5 w8 F (dotsG (C.take (k + 1)))) := HI8.out.congr (fun r _ => by rw [HT.out, dotsG_snoc, Hbb.out]; simp)
     go_wp2_with fail
     go_roundw
     case rel => exact ⟨k + 1, F, HKm.out, by simp, HG.out⟩
     case measure => simp [intOf]; have := HKm.out; omega
    | true =>
     obtain ⟨y, num, rfl, hy, hn1⟩ : ∃ (y : Nat) (num : Int), dd = ⟨(y : Int), num⟩ ∧ y < 16 ∧ True := by
      have h := Hbb.out
      unfold okD at h
      simp only [Bool.and_eq_true, V.isR, decide_eq_true_eq] at h
      obtain ⟨lo, hi⟩ := dd
      exact ⟨lo.toNat, hi, by simp only at h; congr 1; omega, by simp only at h; omega, trivial⟩
     have HG : Hid (∀ r, (if r = y then dotsG (C.take k) r ++ [⟨num, num⟩] else dotsG (C.take k) r) = dotsG (C.take (k + 1)) r) := fun r => by
      rw [HT.out, dotsG_snoc, Hbb.out]
      by_cases h : r = y
      ·subst h; simp
      ·rw [if_neg h, if_neg (by simp; omega)]
     have HGL := hide HX8.out.lt
     have m0 := HX8.out.at.c0
     have m1 : w8.cell? ⟨g7, 1, none⟩ = some (.int .i64 num) := HX8.out.at.c1
     dsimp only at m0
     have HLN : Hid ((F y).n < 8796093022207) := by
      have h := HI8.out.o.len hy
      rw [HI8.out.l y hy] at h
      have h2 := dotsG_len (C.take k) y
      rw [List.length_take] at h2
      show _ < _
      have := HKm.out
      omega
     have c1 := HI8.out.s.cell y hy
     obtain ⟨sa, sn, sc, hf⟩ : ∃ sa sn sc, (F y).ao = sa ∧ (F y).n = sn ∧ (F y).cap = sc := ⟨_, _, _, rfl, rfl, rfl⟩
     rw [hf.1, hf.2.1, hf.2.2] at c1
     have c1n := ((below_new w8 (.cells #[.int .i64 num, .int .i64 num] 129)).cell (World.block_lt_of_cell? _ _ c1)).trans c1
     have c1d := ((below_new w8.drew (.cells #[.int .i64 num, .int .i64 num] 129)).cell (p := ⟨B, y, none⟩) (World.block_lt_of_cell? _ _ c1)).trans c1
     have HF := hide hf
     have y0 : (0 : Int) ≤ (y : Int) := by omega
     have y1 : (y : Int) < 16 := by omega
     have HSW : Hid (∀ W : World, W.heap[g7]? = w8.heap[g7]? → W.cell? ⟨g7, 0, none⟩ = some (.int .i64 (y : Int)) ∧ W.cell? ⟨g7, 1, none⟩ = some (.int .i64 num)) := fun W e1 =>
      ⟨(World.cell?_of_block e1).trans m0, (World.cell?_of_block e1).trans m1⟩
     clear hf hn1
     go_wp2_with fail
     refine wp_region_held_drew (S := fun W => W.cell? ⟨g7, 0, none⟩ = some (.int .i64 (y : Int)) ∧ W.cell? ⟨g7, 1, none⟩ = some (.int .i64 num)) (by kernel_rfl) (HSW.out _ rfl) (fun hHeld => ?_)
     refine wTk 0 ⟨some 20, .fieldAddr 32 (.tmp 6) 0, 0, "past.go:81", #[], none⟩ rfl ?_
     refine wTk 1 ⟨some 21, .load 3 (.tmp 20), 3, "past.go:81", #[⟨0, .data⟩], none⟩ rfl ?_
     refine wTk 2 ⟨some 22, .fieldAddr 32 (.tmp 6) 0, 0, "past.go:81", #[], none⟩ rfl ?_
     refine wTk 3 ⟨some 23, .load 3 (.tmp 22), 3, "past.go:81", #[⟨2, .data⟩], none⟩ rfl ?_
     refine wTk 4 ⟨some 24, .indexAddr 95 (.tmp 4) (.tmp 23), 0, "past.go:81", #[⟨3, .data⟩], none⟩ rfl ?_
     refine wTk 6 ⟨some 26, .fieldAddr 32 (.tmp 6) 1, 0, "past.go:81", #[], none⟩ rfl ?_
     refine wTk 7 ⟨some 27, .load 3 (.tmp 26), 3, "past.go:81", #[⟨6, .data⟩], none⟩ rfl ?_
     refine wTk 8 ⟨some 28, .fieldAddr 32 (.tmp 6) 1, 0, "past.go:81", #[], none⟩ rfl ?_
     refine wTk 9 ⟨some 29, .load 3 (.tmp 28), 3, "past.go:81", #[⟨8, .data⟩], none⟩ rfl ?_
     refine wTk 10 ⟨some 30, .build 129 #[(0, .tmp 27), (1, .tmp 29)], 129, "past.go:81", #[⟨7, .data⟩, ⟨9, .data⟩], none⟩ rfl ?_
     refine wpAnyH_ready (rs := [5, 11]) (by kernel_rfl) (by simp) ?_
     refine AllReadyH.cons rfl (fun K hK => ?_) ?_
     ·go_simp
      refine hK.out _ _ (HSW.out _ rfl) (fun hHeld => ?_)
      clear hK K
      refine wpAnyH_ready (rs := [11]) (by kernel_rfl) (by simp) (.cons rfl (fun K hK => ?_) .nil)
      go_simp
      refine hK.out _ _ (HSW.out _ (Below.heap_alloc _ _ _ HGL.out)) (fun hHeld => ?_)
      clear hK K
      refine wpAnyH_ready (rs := [12]) (by kernel_rfl) (by simp) (.cons rfl (fun K hK => ?_) .nil)
      refine HI8.out.o.step HI8.out.h y hy ⟨num, num⟩ _ (by rfl) HLN.out (by rfl) (.tmp 25) (.tmp 31) (by rfl) sa sn sc HF.out (by rfl) _ (by rfl) (by rfl) ?_
      intro g6 c6 w9 O6 h2 h3 h4
      have d1 := (HI8.out.mid h2).cell y hy
      have d2 := (HI8.out.mid h2).frozen y
      have HP := hide (HI8.out.push y hy ⟨num, num⟩ sn c6 g6 O6 h2 h3 h4 _ rfl)
      have HK2 := hide (keep_off (B := B) (k := y) (v := .slice (some ⟨g6, 0, none⟩) (sn + 1) c6) h2 HGL.out HOC.out (by have := HLT.out; omega)).1
      refine hK.out _ _ (HSW.out _ (h2 _ HGL.out HOC.out).1) (fun hHeld => ?_)
      clear hK K
      refine wTk 13 ⟨some 33, .indexAddr 95 (.tmp 4) (.tmp 21), 0, "past.go:81", #[⟨1, .data⟩, ⟨0, .phase⟩, ⟨1, .phase⟩, ⟨2, .phase⟩, ⟨3, .phase⟩, ⟨4, .phase⟩, ⟨5, .phase⟩, ⟨6, .phase⟩, ⟨7, .phase⟩, ⟨8, .phase⟩, ⟨9, .phase⟩, ⟨10, .phase⟩, ⟨11, .phase⟩, ⟨12, .phase⟩], none⟩ rfl ?_
      refine wpAnyH_ready (rs := [14]) (by kernel_rfl) (by simp) (.cons rfl (fun K hK => ?_) .nil)
      go_simp
      refine hK.out _ _ (HSW.out _ HK2.out) (fun hHeld => ?_)
      clear hK K
      refine wpAnyH_done (by kernel_rfl) ?_ _
      clear hHeld O6 h2 h3 h4
      go_wp2_with fail
      go_roundw
      case rel => exact ⟨k + 1, _, HKm.out, by simp, HP.out.congr (fun r hr => HG.out r)⟩
      case measure => simp [intOf]; have := HKm.out; omega
     ·refine AllReadyH.cons rfl (fun K hK => ?_) ?_
      rotate_left
      ·exact AllReadyH.nil
      go_simp
      refine hK.out _ _ (HSW.out _ (Below.heap_alloc _ _ _ HGL.out)) (fun hHeld => ?_)
      clear hK K
      refine wpAnyH_ready (rs := [5]) (by kernel_rfl) (by simp) (.cons rfl (fun K hK => ?_) .nil)
      go_simp
      refine hK.out _ _ (HSW.out _ (Below.heap_alloc _ _ _ HGL.out)) (fun hHeld => ?_)
      clear hK K
      refine wpAnyH_ready (rs := [12]) (by kernel_rfl) (by simp) (.cons rfl (fun K hK => ?_) .nil)
      refine HI8.out.o.step HI8.out.h y hy ⟨num, num⟩ _ (by rfl) HLN.out (by rfl) (.tmp 25) (.tmp 31) (by rfl) sa sn sc HF.out (by rfl) _ (by rfl) (by rfl) ?_
      intro g6 c6 w9 O6 h2 h3 h4
      have d1 := (HI8.out.mid h2).cell y hy
      have d2 := (HI8.out.mid h2).frozen y
      have HP := hide (HI8.out.push y hy ⟨num, num⟩ sn c6 g6 O6 h2 h3 h4 _ rfl)
      have HK2 := hide (keep_off (B := B) (k := y) (v := .slice (some ⟨g6, 0, none⟩) (sn + 1) c6) h2 HGL.out HOC.out (by have := HLT.out; omega)).1
      refine hK.out _ _ (HSW.out _ (h2 _ HGL.out HOC.out).1) (fun hHeld => ?_)
      clear hK K
      refine wTk 13 ⟨some 33, .indexAddr 95 (.tmp 4) (.tmp 21), 0, "past.go:81", #[⟨1, .data⟩, ⟨0, .phase⟩, ⟨1, .phase⟩, ⟨2, .phase⟩, ⟨3, .phase⟩, ⟨4, .phase⟩, ⟨5, .phase⟩, ⟨6, .phase⟩, ⟨7, .phase⟩, ⟨8, .phase⟩, ⟨9, .phase⟩, ⟨10, .phase⟩, ⟨11, .phase⟩, ⟨12, .phase⟩], none⟩ rfl ?_
      refine wpAnyH_ready (rs := [14]) (by kernel_rfl) (by simp) (.cons rfl (fun K hK => ?_) .nil)
      go_simp
      refine hK.out _ _ (HSW.out _ HK2.out) (fun hHeld => ?_)
      clear hK K
      refine wpAnyH_done (by kernel_rfl) ?_ _
      clear hHeld O6 h2 h3 h4
      go_wp2_with fail
      go_roundw
      case rel => exact ⟨k + 1, _, HKm.out, by simp, HP.out.congr (fun r hr => HG.out r)⟩
      case measure => simp [intOf]; have := HKm.out; omega
   ·have hlti : ¬ (k : Int) < (m : Int) := by omega
    obtain rfl : k = m := by omega
    have l9 := run_ldA HI.out.s
    have HSR : Hid (∀ r, r < 16 → RSrc w6 (F r).ao (F r).n (F r).cap (F r).L) := fun r hr => HI.out.o.src HI.out.h hr (by
     have h := HI.out.o.len hr
     rw [HI.out.l r hr] at h
     have h2 := dotsG_len (C.take k) r
     rw [List.length_take] at h2
     omega)
    have HFL : Hid (∀ r, r < 16 → (F r).L = dotsG C r) := fun r hr => by rw [HI.out.l r hr, List.take_of_length_le (by have := HCm.out.1; omega)]
    have b56 := hide HI.out.b
    have Hh := hide HI.out.h
    go_wp2_with fail
    refine (canonical_any F _ HSR.out).mono ?_
    rintro e w8 ⟨p, rfl, S2, n2, b2, c2'⟩
    have h4 := H4.out
    have b68 : Below B w5 w8 := b56.out.trans (b2.mono (by have := Hh.out; omega))
    have b48 : Below (w.heap.size + 1) w4 w8 := (Kd.below (Below.refl _ _) HK5.out (by have := Hbl.out; omega) (by have := Hbl.out; omega)).trans (b68.mono (by have := Hbl.out; omega))
    have b38 : Below (w.heap.size + 1) w3 w8 := (h4.2.1.mono (by have := Hbl.out; omega)).trans b48
    obtain ⟨s1, e1, e2, e3, e4⟩ := past_end (w := w) ((b38.block w.heap.size (by omega)).trans HP3.out) S2 (n2.mono (by have := Hh.out; have := Hbl.out; omega)) (HB3.out.trans (b38.mono (by omega))) (Nat.le_refl _)
    have HE1 := hide e1
    have HE2 : Hid (GivesP w (w8.setRow w.heap.size (PC p)) (.returned (PV p)) (CanonOf (dotsG D))) := ⟨p, rfl, e2, e3, e4, canonOf_mem (c2'.congr HFL.out) (fun r _ n => by
     rw [dotsG_mem, dotsG_mem]
     have hm := HCm.out.2.2
     constructor
     ·rintro ⟨d, hd, h⟩; exact ⟨d, (hm d).1 hd, h⟩
     ·rintro ⟨d, hd, h⟩; exact ⟨d, (hm d).2 hd, h⟩)⟩
    clear S2 n2 b2 c2' e1 e2 e3 e4 l9 b38 b48 b68 h4
    go_wp2_with fail
    exact bodyPost_ret (v := PV p) (resP Tryz.results95 rfl HE1.out) rfl HE2.out
end Go.Proofs.YtalpnhfoaohhhaaGreat
namespace Go.Proofs.YtalpnhfoaohhhaaGreat
open Go.RowKit
attribute [local go_sem ↓] ldP_eq stP_eq ldD_eq stD_eq ldS_eq stS_eq
attribute [local go_sem] cells_PV PC_size zero_SC cells_SV SC_size
variable {w w' w2 W W' : World} {g : Nat}

end Go.Proofs.YtalpnhfoaohhhaaGreat
namespace Go.Proofs.YtalpnhfoaohhhaaGreat
open Go.RowKit
attribute [local go_sem ↓] ldP_eq stP_eq ldRe_eq stRe_eq ldD_eq stD_eq K.ld28_eq K.st28_eq
attribute [local go_sem] cells_PV PC_size cells_ReV ReC_size K.cells_EV K.EC_size zero_ReC
variable {w w' w2 W W' : World} {g : Nat}
def covB (r : Rc) (e : K.En) : Bool := (decide (r.s.size = 0) || (r.s.toList == e.sku.toList)) && inB r.p.P e
theorem take_snocR (L : List Rc) (k : Nat) (h : k < L.length) : L.take (k + 1) = L.take k ++ [L.getD k rc0] := by
 rw [List.take_succ_eq_append_getElem h]; simp [List.getD, h]
end Go.Proofs.YtalpnhfoaohhhaaGreat
namespace Go.Proofs.YtalpnhfoaohhhaaGreat.K
open Go.RowKit
attribute [local go_sem ↓] ld28_eq st28_eq
attribute [local go_sem] zero_EC cells_EV
def eqE (x y : En) : Bool := x.rep == y.rep && x.num == y.num && x.sku.toList == y.sku.toList && x.qty == y.qty
theorem run_eq26 (a b c d : Int) (w : World) : (Op.equalIn 9999 32 (.agg #[.int .i64 a, .int .i64 b]) (.agg #[.int .i64 c, .int .i64 d])).run Tryz.prog w = .ok (a == c && b == d) w := by
 have u3 := Tryz.underlying3
 have a3 := Tryz.isAgg3
 have z3 := Tryz.sizeOf3
 have hS : Tryz.prog.underlying 32 = some (.struct (Tryz.prog.fieldsOf 32)) := by kernel_rfl
 have hp : Tryz.prog.stoodInHeld 32 = false := by kernel_rfl
 rw [show (9999 : Nat) = 9998 + 1 from rfl, run_equalIn_struct w 9998 32 _ _ hS hp]
 simp only [Program.fieldsOf, Tryz.underlying32]
 go_simp
 by_cases h1 : a = c <;> by_cases h2 : b = d <;> simp [h1, h2]
theorem run_eq28 (x y : En) (w : World) : (Op.equalIn 10000 36 (.agg (EC x)) (.agg (EC y))).run Tryz.prog w = .ok (eqE x y) w := by
 have u3 := Tryz.underlying3
 have a3 := Tryz.isAgg3
 have z3 := Tryz.sizeOf3
 have u9 := Tryz.underlying9
 have a9 := Tryz.isAgg9
 have z9 := Tryz.sizeOf9
 have a26 := Tryz.isAgg32
 have z26 := Tryz.sizeOf32
 have hS : Tryz.prog.underlying 36 = some (.struct (Tryz.prog.fieldsOf 36)) := by kernel_rfl
 have hp : Tryz.prog.stoodInHeld 36 = false := by kernel_rfl
 obtain ⟨r, m, s, q⟩ := x
 obtain ⟨r', m', s', q'⟩ := y
 have h26 := run_eq26 r m r' m'
 show (Op.equalIn 10000 36 (.agg #[.int .i64 r, .int .i64 m, .string s, .int .i64 q]) (.agg #[.int .i64 r', .int .i64 m', .string s', .int .i64 q'])).run Tryz.prog w = .ok (r == r' && m == m' && s.toList == s'.toList && q == q') w
 rw [show (10000 : Nat) = 9999 + 1 from rfl, run_equalIn_struct w 9999 36 _ _ hS hp]
 simp only [Program.fieldsOf, Tryz.underlying36]
 have h9 : ∀ w, (Op.equalIn 9999 9 (.string s) (.string s')).run Tryz.prog w = .ok (s.toList == s'.toList) w := fun w => run_equalIn_string w 9998 9 s s' Tryz.underlying9
 have h3 : ∀ w, (Op.equalIn 9999 3 (.int .i64 q) (.int .i64 q')).run Tryz.prog w = .ok (q == q') w := fun w => run_equalIn_int w 9998 3 .i64 .i64 q q' Tryz.underlying3
 obtain ⟨D, hD⟩ : ∃ D, 9999 = D := ⟨9999, rfl⟩
 rw [hD] at h26 h9 h3 ⊢
 go_simp
 by_cases e1 : r = r'
 ·by_cases e2 : m = m'
  ·by_cases e3 : s.toList = s'.toList
   ·by_cases e4 : q = q'
    ·simp [e1, e2, e3, e4]
    ·simp [e1, e2, e3, e4]
   ·simp [e1, e2, e3]
  ·simp [e1, e2]
 ·simp [e1]
theorem eqE_self (x : En) : eqE x x = true := by simp [eqE]
attribute [local go_sem ↓] run_eq28
set_option maxHeartbeats 1600000 in
theorem same_any (ao bo : Option Addr) (n cap m cap' : Nat) (L R : List En) (w : World) (hS : ESrc w ao n cap L) (hR : ESrc w bo m cap' R) (hE : L = R) :
  Calls Tryz.prog 39 #[.slice ao n cap, .slice bo m cap'] w fun e w' => e = .returned (.bool true) ∧ Below w.heap.size w w' := by
 have HS := hide hS
 have HR := hide hR
 have hn := hS.2.2.2.2
 have hnm : n = m := by rw [← hS.1, ← hR.1, hE]
 subst hE
 subst hnm
 clear hS hR
 go_enter Tryz.func39, Tryz.ntmps39
 go_wp2_with fail
 go_loopw [5] (fun i wr => ∃ k : Nat, k ≤ n ∧ i = .int .i64 k ∧ Hid (Below w.heap.size w wr)) (fun i _ => n - (intOf i).toNat)
 case atStart => exact ⟨0, Nat.zero_le _, rfl, Below.refl _ _⟩
 case round =>
  obtain ⟨k, hk, rfl, HB⟩ := hrel
  by_cases hlt : k < n
  ·obtain ⟨ad, rfl, A0⟩ := (HS.out.below HB.out).at k hlt
   obtain ⟨bd, rfl, A1⟩ := (HR.out.below HB.out).at k hlt
   obtain ⟨e, He⟩ : ∃ e, Hid (L.getD k en0 = e) := ⟨_, rfl⟩
   rw [He.out] at A0 A1
   have l0 : ∀ d os, (ld28 (.pointer (some (ad.add (k * 4))))).run Tryz.prog (Sort.grow (redrawn wr d) os) = .ok (EV e) (Sort.grow (redrawn wr d) os) := fun d os => run_ld28 (A0.on (below_regrown wr d os))
   have l1 : ∀ d os, (ld28 (.pointer (some (bd.add (k * 4))))).run Tryz.prog (Sort.grow (redrawn wr d) os) = .ok (EV e) (Sort.grow (redrawn wr d) os) := fun d os => run_ld28 (A1.on (below_regrown wr d os))
   have hq := eqE_self e
   clear A0 A1
   go_wp2_with fail
   refine wp_region_quiet_below (by kernel_rfl) (by kernel_rfl) ?_
   repeat (with_reducible (refine wpQuiet_step ?_); intro K hK; go_simp; (try rw [if_neg (by unfold undef; simp)]); first | (with_reducible (refine hK _ ?_); clear hK K) | (apply Exists.intro; refine ⟨fun _ => ?_, hK _ ?_⟩; (fail); clear hK K))
   with_reducible (refine wpQuiet_nil ?_)
   intro _ hw'
   obtain ⟨⟨dq, osq⟩, hw''⟩ := hw'
   subst hw''
   have HBE : Hid (Below w.heap.size w (Sort.grow (redrawn wr dq) osq)) := HB.out.trans ((below_regrown wr dq osq).mono HB.out.size)
   go_wp2_with fail
   go_roundw
   case rel => exact ⟨k + 1, by omega, by go_num, HBE⟩
   case measure => simp [intOf]; omega
  ·go_wp2_with fail
   go_ret
   exact ⟨rfl, HB.out⟩
end Go.Proofs.YtalpnhfoaohhhaaGreat.K
namespace Go.Proofs.YtalpnhfoaohhhaaGreat
open Go.RowKit
attribute [local go_sem ↓] K.ld28_eq K.st28_eq K.run_eq28 ldP_eq stP_eq ldRe_eq stRe_eq
attribute [local go_sem] K.zero_EC K.cells_EV cells_PV PC_size
theorem list_ext {s u : ByteArray} (h : s.toList = u.toList) : s = u := by
 rw [ByteArray.toList_eq, ByteArray.toList_eq] at h
 exact ByteArray.ext (Array.ext' h)
theorem below_drewB {n : Nat} {w W : World} (h : Below n w W) : Below n w W.drew := ⟨h.os, h.tape, h.output, h.size, h.block⟩
abbrev Rp := ByteArray × Pst
def plR (L : List Rc) : List Rp := L.map fun r => (r.s, r.p.P)
theorem plR_len (L : List Rc) : (plR L).length = L.length := by simp [plR]
theorem plR_snoc (L : List Rc) (r : Rc) : plR (L ++ [r]) = plR L ++ [(r.s, r.p.P)] := by simp [plR]
theorem plR_take (L : List Rc) (k : Nat) (h : k < L.length) : plR (L.take (k + 1)) = plR (L.take k) ++ [((L.getD k rc0).s, (L.getD k rc0).p.P)] := by
 rw [take_snocR L k h, plR_snoc]
theorem ReAt.flat {w : World} {b o : Nat} {r : Rc} (A : ReAt w ⟨b, o, none⟩ (mkR r)) : w.cell? ⟨b, o, none⟩ = some (.string r.s) ∧ PAt w ⟨b, o + 1, none⟩ r.p := by
 obtain ⟨h0, h1, h2⟩ := A
 rw [Addr.add_lit] at h1 h2
 refine ⟨h0, h1, ?_⟩
 rw [Addr.add_lit]
 exact h2
theorem RcS.spot {w : World} {ad : Addr} {n c : Nat} {L : List Rc} (h : RcS w (some ad) n c L) (hn : 0 < n) : ∃ b o, ad = ⟨b, o, none⟩ := by
 obtain ⟨ad0, e0, A00⟩ := h.at 0 hn
 obtain rfl := Option.some.inj e0
 have hsp := World.cell?_spot A00.c0
 rw [Nat.zero_mul, add_zero] at hsp
 obtain ⟨b, o, sp⟩ := ad
 have hsp : sp = none := hsp
 subst hsp
 exact ⟨b, o, rfl⟩
end Go.Proofs.YtalpnhfoaohhhaaGreat
namespace Go.Proofs.YtalpnhfoaohhhaaGreat
open Go.RowKit
/-! ### any total order -/
section
variable {α : Type} {c : α → α → Int}
def Srt (c : α → α → Int) (L : List α) : Prop := L.Pairwise fun x y => c x y < 0
theorem Tot.irr (h : Tot c) (x : α) : ¬ c x x < 0 := by have := (h.eq x x).2 rfl; omega
theorem Tot.asym (h : Tot c) {x y : α} (h1 : c x y < 0) : ¬ c y x < 0 := by have := h.neg x y; omega
theorem Srt.uniq (h : Tot c) : ∀ {X Y : List α}, Srt c X → Srt c Y → (∀ x, x ∈ X ↔ x ∈ Y) → X = Y
 | [], [], _, _, _ => rfl
 | [], b :: _, _, _, e => absurd ((e b).2 List.mem_cons_self) List.not_mem_nil
 | a :: _, [], _, _, e => absurd ((e a).1 List.mem_cons_self) List.not_mem_nil
 | a :: X, b :: Y, h1, h2, e => by
  obtain ⟨a1, a2⟩ := List.pairwise_cons.1 h1
  obtain ⟨b1, b2⟩ := List.pairwise_cons.1 h2
  have hab : a = b := by
   rcases List.mem_cons.1 ((e a).1 List.mem_cons_self) with q | q
   ·exact q
   ·rcases List.mem_cons.1 ((e b).2 List.mem_cons_self) with q' | q'
    ·exact q'.symm
    ·exact absurd (a1 b q') (h.asym (b1 a q))
  subst hab
  rw [Srt.uniq h a2 b2 fun x => ?_]
  have hx := e x
  rw [List.mem_cons, List.mem_cons] at hx
  constructor
  ·intro hm
   rcases hx.1 (.inr hm) with rfl | q
   ·exact absurd (a1 _ hm) (h.irr _)
   ·exact q
  ·intro hm
   rcases hx.2 (.inr hm) with rfl | q
   ·exact absurd (b1 _ hm) (h.irr _)
   ·exact q
structure Mg (c : α → α → Int) (X Y : List α) (D A B : List α) : Prop where
 sd : Srt c D
 sa : Srt c A
 sb : Srt c B
 da : ∀ d ∈ D, ∀ x ∈ A, c d x < 0
 db : ∀ d ∈ D, ∀ x ∈ B, c d x < 0
 all : ∀ x, (x ∈ D ∨ x ∈ A ∨ x ∈ B) ↔ (x ∈ X ∨ x ∈ Y)
theorem Mg.start {X Y : List α} (h1 : Srt c X) (h2 : Srt c Y) : Mg c X Y [] X Y :=
 ⟨List.Pairwise.nil, h1, h2, fun d h => (by cases h), fun d h => (by cases h), fun x => by simp⟩
theorem Mg.symm {X Y D A B : List α} (h : Mg c X Y D A B) : Mg c X Y D B A :=
 ⟨h.sd, h.sb, h.sa, h.db, h.da, fun x => by rw [← h.all x]; constructor <;> (rintro (q | q | q) <;> simp [q])⟩
theorem Mg.left {X Y D A B : List α} {x : α} (h : Mg c X Y D (x :: A) B) (hx : ∀ y ∈ B, c x y < 0) : Mg c X Y (D ++ [x]) A B := by
 obtain ⟨a1, a2⟩ := List.pairwise_cons.1 h.sa
 refine ⟨List.pairwise_append.2 ⟨h.sd, List.pairwise_singleton _ _, fun d hd y hy => ?_⟩, a2, h.sb, fun d hd y hy => ?_, fun d hd y hy => ?_, fun y => ?_⟩
 ·obtain rfl := List.mem_singleton.1 hy
  exact h.da d hd _ List.mem_cons_self
 ·rcases List.mem_append.1 hd with q | q
  ·exact h.da d q y (List.mem_cons_of_mem _ hy)
  ·obtain rfl := List.mem_singleton.1 q
   exact a1 y hy
 ·rcases List.mem_append.1 hd with q | q
  ·exact h.db d q y hy
  ·obtain rfl := List.mem_singleton.1 q
   exact hx y hy
 ·rw [← h.all y]
  simp only [List.mem_append, List.mem_cons]
  constructor
  ·rintro ((q | q) | q | q)
   ·exact .inl q
   ·exact .inr (.inl (.inl (by simpa using q)))
   ·exact .inr (.inl (.inr q))
   ·exact .inr (.inr q)
  ·rintro (q | (q | q) | q)
   ·exact .inl (.inl q)
   ·exact .inl (.inr (by simp [q]))
   ·exact .inr (.inl q)
   ·exact .inr (.inr q)
theorem Mg.drop {X Y D A B : List α} {x : α} (h : Mg c X Y D (x :: A) B) (hx : x ∈ B) : Mg c X Y D A B :=
 ⟨h.sd, (List.pairwise_cons.1 h.sa).2, h.sb, fun d hd y hy => h.da d hd y (List.mem_cons_of_mem _ hy), h.db, fun y => by
  rw [← h.all y]
  constructor
  ·rintro (q | q | q)
   ·exact .inl q
   ·exact .inr (.inl (List.mem_cons_of_mem _ q))
   ·exact .inr (.inr q)
  ·rintro (q | q | q)
   ·exact .inl q
   ·rcases List.mem_cons.1 q with rfl | q
    ·exact .inr (.inr hx)
    ·exact .inr (.inl q)
   ·exact .inr (.inr q)⟩
theorem srt_head (h : Tot c) {x y : α} {B : List α} (hB : Srt c (y :: B)) (hxy : c x y < 0) : ∀ z ∈ y :: B, c x z < 0 := fun z hz => by
 rcases List.mem_cons.1 hz with rfl | q
 ·exact hxy
 ·exact h.lt hxy (by have := (List.pairwise_cons.1 hB).1 z q; omega)
def UnK (c : α → α → Int) (X Y Z : List α) : Prop := Srt c Z ∧ ∀ x, x ∈ Z ↔ (x ∈ X ∨ x ∈ Y)
theorem Mg.doneL {X Y D A : List α} (h : Mg c X Y D A []) : UnK c X Y (D ++ A) :=
 ⟨List.pairwise_append.2 ⟨h.sd, h.sa, h.da⟩, fun x => by rw [← h.all x]; simp⟩
theorem Mg.doneR {X Y D B : List α} (h : Mg c X Y D [] B) : UnK c X Y (D ++ B) := h.symm.doneL
theorem UnK.uniq (t : Tot c) {X Y Z Z' : List α} (h : UnK c X Y Z) (h' : UnK c X Y Z') : Z = Z' := Srt.uniq t h.1 h'.1 fun x => (h.2 x).trans (h'.2 x).symm
end
/-! ### records -/
def cmpU (x y : UInt8) : Int := if x < y then -1 else if y < x then 1 else 0
theorem cmpU_tot : Tot cmpU := by
 refine ⟨fun x y => ?_, fun x y => ?_, fun x y => ?_, fun x y z => ?_⟩ <;> simp only [cmpU, UInt8.lt_iff_toNat_lt]
 ·split
  ·simp
  ·split <;> simp
 ·split <;> split <;> (first | omega | rfl)
 ·constructor
  ·intro h
   split at h
   ·omega
   ·split at h
    ·omega
    ·exact UInt8.toNat_inj.1 (by omega)
  ·rintro rfl; simp
 ·intro h1 h2
  split at h1 <;> split at h2 <;> split <;> (try split) <;> (try split at h1) <;> (try split at h2) <;> omega
theorem cb_lex : ∀ a b : List UInt8, Lib.compareBytes a b = lex cmpU a b
 | [], [] => rfl
 | [], _ :: _ => rfl
 | _ :: _, [] => rfl
 | a :: x, b :: y => by
  have ih := cb_lex x y
  simp only [Lib.compareBytes, lex, cmpU]
  by_cases h : a < b
  ·simp [h]
  ·by_cases h2 : b < a
   ·simp [h, h2]
   ·simp [h, h2, ih]
theorem cmpS_lex (a b : ByteArray) : cmpS a b = lex cmpU a.data.toList b.data.toList := cb_lex _ _
theorem bytes_ext {a b : ByteArray} (h : a.data.toList = b.data.toList) : a = b := by
 obtain ⟨⟨x⟩⟩ := a; obtain ⟨⟨y⟩⟩ := b; simp at h; rw [h]
theorem cmpS_tot : Tot cmpS := by
 have t := cmpU_tot.lex
 refine ⟨fun x y => ?_, fun x y => ?_, fun x y => ?_, fun x y z => ?_⟩ <;> simp only [cmpS_lex]
 ·exact t.rng _ _
 ·exact t.neg _ _
 ·exact ⟨fun h => bytes_ext ((t.eq _ _).1 h), fun h => by rw [h]; exact (t.eq _ _).2 rfl⟩
 ·exact t.tr _ _ _
def rck (r : Rc) : Rp := (r.s, r.p.P)
theorem plR_rck (L : List Rc) : plR L = L.map rck := rfl
def ck (x y : Rp) : Int := if cmpS x.1 y.1 = 0 then cmpP x.2 y.2 else cmpS x.1 y.1
theorem ck_tot : Tot ck := Tot.both (f := Prod.fst) (g := Prod.snd) cmpS_tot cmpP_tot (fun _ _ h1 h2 => Prod.ext h1 h2)
theorem cmpR_ck {a b : Rc} {z : Int} (ha : InForm a.p.P) (hb : InForm b.p.P) (h : CmpR a b z) : z = ck (rck a) (rck b) := by
 have e : CmpOf a.p.P b.p.P (cmpP a.p.P b.p.P) := ⟨_, _, canon_iff.2 ha, canon_iff.2 hb, rfl⟩
 unfold ck
 rcases h with ⟨h1, h2⟩ | ⟨h1, h2⟩
 ·rw [if_neg (show ¬ cmpS (rck a).1 (rck b).1 = 0 from h1)]; exact h2
 ·rw [if_pos (show cmpS (rck a).1 (rck b).1 = 0 from h1)]; exact h2.unique e
theorem ck_cmpR {a b : Rc} (ha : InForm a.p.P) (hb : InForm b.p.P) : CmpR a b (ck (rck a) (rck b)) := by
 by_cases h : cmpS a.s b.s = 0
 ·refine .inr ⟨h, ?_⟩
  unfold ck
  rw [if_pos (show cmpS (rck a).1 (rck b).1 = 0 from h)]
  exact ⟨_, _, canon_iff.2 ha, canon_iff.2 hb, rfl⟩
 ·refine .inl ⟨h, ?_⟩
  unfold ck
  rw [if_neg (show ¬ cmpS (rck a).1 (rck b).1 = 0 from h)]
  rfl
theorem rcD_mem {L : List Rc} {j : Nat} (h : j < L.length) : L.getD j rc0 ∈ L := by
 rw [List.getD_eq_getElem?_getD, List.getElem?_eq_getElem h]; exact List.getElem_mem h
theorem rcD_at {L : List Rc} {j : Nat} (h : j < L.length) : L.getD j rc0 = L[j] := by
 rw [List.getD_eq_getElem?_getD, List.getElem?_eq_getElem h]; rfl
theorem okR_iff {L : List Rc} : OkR L L.length ↔ (∀ r ∈ L, RecOk r) ∧ Srt ck (plR L) := by
 constructor
 ·intro h
  have hr : ∀ r ∈ L, RecOk r := fun r hr => by
   obtain ⟨j, hj, rfl⟩ := List.getElem_of_mem hr
   rw [← rcD_at hj]; exact (h j hj).1
  refine ⟨hr, ?_⟩
  have step : ∀ k, ∀ i, (hk : i + k + 1 < L.length) → ck (rck L[i]) (rck L[i + k + 1]) < 0 := by
   intro k
   have one : ∀ i, (hi : i + 1 < L.length) → ck (rck L[i]) (rck L[i + 1]) < 0 := fun i hi => by
    obtain ⟨z, hz, hlt⟩ := (h (i + 1) hi).2 (by omega)
    rw [rcD_at hi, show i + 1 - 1 = i from rfl, rcD_at (by omega)] at hz
    rw [← cmpR_ck (hr _ (List.getElem_mem _)).2.1 (hr _ (List.getElem_mem _)).2.1 hz]
    exact hlt
   induction k with
   | zero => intro i hk; exact one i (by omega)
   | succ k ih =>
    intro i hk
    have h1 := ih i (by omega)
    have h2 := one (i + k + 1) (by omega)
    exact ck_tot.lt h1 (Int.le_of_lt h2)
  unfold Srt
  rw [plR_rck, List.pairwise_map, List.pairwise_iff_getElem]
  intro i j hi hj hij
  obtain ⟨k, rfl⟩ : ∃ k, j = i + k + 1 := ⟨j - i - 1, by omega⟩
  exact step k i hj
 ·rintro ⟨hr, hs⟩ j hj
  unfold Srt at hs
  rw [plR_rck, List.pairwise_map, List.pairwise_iff_getElem] at hs
  refine ⟨hr _ (rcD_mem hj), fun h0 => ?_⟩
  rw [rcD_at hj, rcD_at (by omega)]
  exact ⟨_, ck_cmpR (hr _ (List.getElem_mem _)).2.1 (hr _ (List.getElem_mem _)).2.1, hs (j - 1) j (by omega) hj (by omega)⟩
def UnOf (L M F : List Rc) : Prop := UnK ck (plR L) (plR M) (plR F) ∧ ∀ r ∈ F, RecOk r
theorem UnOf.ok {L M F : List Rc} (h : UnOf L M F) : OkR F F.length := okR_iff.2 ⟨h.2, h.1.1⟩
theorem UnOf.one {L M F G : List Rc} (h : UnOf L M F) (h' : UnOf L M G) : plR F = plR G := h.1.uniq ck_tot h'.1
theorem recOk_rck {r r' : Rc} (h : RecOk r) (e : rck r' = rck r) : RecOk r' := by
 have e1 : r'.s = r.s := congrArg Prod.fst e
 have e2 : r'.p.P = r.p.P := congrArg Prod.snd e
 exact ⟨by rw [e1]; exact h.1, by rw [e2]; exact h.2⟩
end Go.Proofs.YtalpnhfoaohhhaaGreat
namespace Go.Proofs.YtalpnhfoaohhhaaGreat
open Go.RowKit Go.Maps Go.Sort
structure Hs where
 o : Option Addr
 n : Nat
 c : Nat
def hs0 : Hs := ⟨none, 0, 0⟩
abbrev HsV (s : Hs) : Value := .slice s.o s.n s.c
def RSl (v : Value) : Option (DataW Hs × List MemPlace) :=
 match v with
 | .slice o n c => some (.held ⟨o, n, c⟩, [])
 | _ => none
theorem RSl_of (s : Hs) : RSl (HsV s) = some (.held s, []) := rfl
theorem RSl_inv {v : Value} {s : Hs} {ps : List MemPlace} (h : RSl v = some (.held s, ps)) : v = HsV s := by
 unfold RSl at h
 split at h
 ·simp at h
  obtain ⟨rfl, _⟩ := h
  rfl
 ·simp at h
def MpS (D : DataW Hs) (K : ByteArray → Prop) (f : ByteArray → Hs) : Prop := (∀ s : ByteArray, has D (.string s.data.toList) = true ↔ K s) ∧ ∀ s : ByteArray, D.atKey (.string s.data.toList) (.held hs0) = .held (f s)
theorem mpS_start : MpS (.map []) (fun _ => False) (fun _ => hs0) := ⟨fun s => by simp [has], fun s => rfl⟩
theorem strS_inj {a b : ByteArray} (h : (Lit.string a.data.toList) = .string b.data.toList) : a = b := by
 cases a; cases b; simp at h; simp [h]
theorem mpS_step {D : DataW Hs} {K : ByteArray → Prop} {f : ByteArray → Hs} (h : MpS D K f) (hm : IsMap D) (k : ByteArray) (x : Hs) (g : ByteArray → Hs) (hg : g k = x) (hf : ∀ s, s ≠ k → g s = f s) :
  MpS (D.put (.string k.data.toList) (.held x)) (fun s => s = k ∨ K s) g := by
 refine ⟨fun s => ?_, fun s => ?_⟩
 ·by_cases hs : k = s
  ·subst hs
   rw [has_put_same hm (k := .string k.data.toList) (show WideAt.IsKeyLit (.string k.data.toList) from trivial)]
   exact ⟨fun _ => .inl rfl, fun _ => rfl⟩
  ·rw [has_put_other (fun he => hs (strS_inj he).symm), h.1 s]
   exact ⟨fun h => .inr h, fun h => h.resolve_left (fun e => hs e.symm)⟩
 ·by_cases hs : k = s
  ·subst hs
   rw [atKey_put_same hm (k := .string k.data.toList) (show WideAt.IsKeyLit (.string k.data.toList) from trivial), hg]
  ·rw [atKey_put_other (fun he => hs (strS_inj he).symm), h.2 s, hf s (fun e => hs e.symm)]
theorem keysS {P : Program} {k : TypeId} {R : Value → Option (DataW Hs × List MemPlace)} {w : World} {b n : Nat} {D : DataW Hs} {S : ByteArray → Prop} {f : ByteArray → Hs} (hown : w.ownsMap P k R b n D) (K : Keyed P k) (hk : P.underlying k = some .string) (hm : MpS D S f)
  {ss : List (List UInt8)} (hp : ss.Perm (strKeys D)) : ss.Nodup ∧ ∀ x : List UInt8, x ∈ ss ↔ S ⟨x.toArray⟩ := by
 obtain ⟨es, hD, hpw, _⟩ := hown.entries K
 obtain ⟨es', hD', hko⟩ := hown.keysOf
 obtain rfl : es = es' := by rw [hD] at hD'; simpa using hD'
 subst hD
 have hks : ∀ p ∈ es, ∃ x, p.1 = .string x := fun p hp => by obtain ⟨v, hv⟩ := hko p hp; obtain ⟨x, _, hx, _⟩ := Maps.keyOf_str hk hv; exact ⟨x, hx⟩
 have hnd : (strKeys (.map es)).Nodup := by
  show (es.map fun p => strOf p.1).Nodup
  refine List.pairwise_map.2 (hpw.imp_of_mem fun {p q} hp' hq' hne e => hne ?_)
  obtain ⟨a, ha⟩ := hks p hp'
  obtain ⟨b, hb⟩ := hks q hq'
  rw [ha, hb] at e ⊢
  exact congrArg _ e
 have hmem : ∀ x, x ∈ strKeys (.map es) ↔ has (.map es) (.string x) = true := fun x => by
  rw [has_eq, List.any_eq_true]
  show x ∈ es.map (fun p => strOf p.1) ↔ _
  rw [List.mem_map]
  constructor
  ·rintro ⟨p, hp', rfl⟩
   obtain ⟨a, ha⟩ := hks p hp'
   exact ⟨p, hp', by rw [ha]; simp [Lit.sameKey, strOf]⟩
  ·rintro ⟨p, hp', hs⟩
   obtain ⟨a, ha⟩ := hks p hp'
   rw [ha] at hs
   exact ⟨p, hp', by rw [ha]; simpa [Lit.sameKey, strOf] using hs⟩
 refine ⟨hp.nodup_iff.2 hnd, fun x => ?_⟩
 rw [hp.mem_iff, hmem x]
 exact hm.1 ⟨x.toArray⟩
end Go.Proofs.YtalpnhfoaohhhaaGreat
namespace Go.Proofs.YtalpnhfoaohhhaaGreat
open Go.RowKit Go.Maps Go.Sort
variable {P : Program} {kt et : TypeId} {size B : Nat} {w W W2 : World} {b k : Nat} {K : ByteArray → Prop} {f : ByteArray → Hs} {X : ByteArray → List Value}
structure MRo (P : Program) (kt et : TypeId) (size B : Nat) (w W : World) (b k : Nat) (K : ByteArray → Prop) (f : ByteArray → Hs) (X : ByteArray → List Value) : Prop where
 map : ∃ D, W.ownsMap P kt RSl b k D ∧ MpS D K f
 rows : ∀ s, W.ownsRow B et size (HsV (f s)) (f s).n (X s)
 apart : ∀ s t, s ≠ t → ∀ g, (HsV (f s)).ownBlock = some g → (HsV (f t)).ownBlock ≠ some g
 below : Below w.heap.size w W
 hb : w.heap.size ≤ b ∧ b < B ∧ B ≤ W.heap.size
theorem MRo.start (w : World) : MRo P kt et size (w.heap.size + 1) w (w.alloc (.map #[] 0)) w.heap.size 0 (fun _ => False) (fun _ => hs0) (fun _ => []) :=
 ⟨⟨_, World.ownsMap_made _ _ _ _, mpS_start⟩, fun _ => World.ownsRow_nil _ _ _ _, fun _ _ _ g h => (by cases h), (Below.refl _ _).alloc (Nat.le_refl _) _, Nat.le_refl _, Nat.lt_succ_self _, by simp⟩
theorem grown_of_below (h : Below W.heap.size W W2) : W.grownBy W2 none := ⟨h.os, h.tape, h.output, h.size, fun k hk _ => h.block k hk⟩
theorem MRo.later (M : MRo P kt et size B w W b k K f X) (h : Below W.heap.size W W2) : MRo P kt et size B w W2 b k K f X := by
 obtain ⟨D, hD, hM⟩ := M.map
 have hlt : b < W.heap.size := by have := M.hb; omega
 refine ⟨⟨D, ?_, hM⟩, fun s => (M.rows s).kept (grown_of_below h) ?_, M.apart, M.below.trans (h.mono M.below.size), M.hb.1, M.hb.2.1, Nat.le_trans M.hb.2.2 h.size⟩
 ·obtain ⟨es, c, h1, h2⟩ := hD
  exact ⟨es, c, (h.block b hlt).trans h1, h2⟩
 ·cases (HsV (f s)).ownBlock with
  | none => exact .inl rfl
  | some g => exact .inr (by simp)
theorem MRo.look (M : MRo P kt et size B w W b k K f X) (hK : Keyed P kt) (hk : P.underlying kt = some .string) {t st : TypeId} (ht : P.underlying t = some (.map kt st)) (hz : (zeroValue st).run P W = .ok (HsV hs0) W) (s : ByteArray) (hs : s.size ≤ maxLen) :
  (Instr.lookup t (.map (some b)) (.string s) false).run P W = .ok (HsV (f s)) W := by
 obtain ⟨D, hD, hM⟩ := M.map
 obtain ⟨v, ps, hr, hv⟩ := hD.lookup hK ht hz (RSl_of hs0) (Go.WideMaps.keyOf_string_mk hk hs)
 rw [hM.2 s] at hv
 rw [hr, RSl_inv hv]
structure MRm (P : Program) (kt et : TypeId) (size B : Nat) (w W : World) (b k : Nat) (K : ByteArray → Prop) (f : ByteArray → Hs) (X : ByteArray → List Value) (s : ByteArray) (x : Hs) (Y : List Value) : Prop where
 map : ∃ D, W.ownsMap P kt RSl b k D ∧ MpS D K f
 row : W.ownsRow B et size (HsV x) x.n Y
 rows : ∀ t, t ≠ s → W.ownsRow B et size (HsV (f t)) (f t).n (X t)
 apart : ∀ t u, t ≠ u → ∀ g, (HsV (f t)).ownBlock = some g → (HsV (f u)).ownBlock ≠ some g
 apartS : ∀ t, t ≠ s → ∀ g, (HsV (f t)).ownBlock = some g → (HsV x).ownBlock ≠ some g
 below : Below w.heap.size w W
 hb : w.heap.size ≤ b ∧ b < B ∧ B ≤ W.heap.size
theorem MRo.app (M : MRo P kt et size B w W b k K f X) (s : ByteArray) {st ty : TypeId} {i : TypeInfo} {z : Value} {bytes : Nat} (hst : P.underlying st = some (.slice et)) (hi : P.info? et = some i) (hz : i.zero = some z) (hsize : i.size = size) (hby : i.bytes = bytes) (hzs : z.cells.size = size) (hsz : 0 < size)
  (a : Addr) (c : Nat) (news : List Value) (hl : news.length = size) (hnews : ∀ j u, news[j]? = some u → W.cell? (a.add j) = some u) (h1 : ∀ u ∈ news, u.oneCell' = true) (h63 : (f s).n + 1 ≤ maxLen) (hbytes : ((f s).n + 1) * bytes ≤ 140737488355328) :
  ∃ g c2 W2, (Builtin.append_ #[st, st] ty #[HsV (f s), .slice (some a) 1 c]).run P W = .ok (.slice (some ⟨g, 0, none⟩) ((f s).n + 1) c2) W2 ∧ MRm P kt et size B w W2 b k K f X s ⟨some ⟨g, 0, none⟩, (f s).n + 1, c2⟩ (X s ++ news) ∧ ∀ q, q < W.heap.size → (HsV (f s)).ownBlock ≠ some q → W2.heap[q]? = W.heap[q]? := by
 obtain ⟨v', W2, hrun, hown, hgrow, _, hat⟩ := run_append_own_at (P := P) W B st ty et i z size bytes hst hi hz hsize hby hzs hsz (HsV (f s)) (f s).n (X s) (M.rows s) a 1 c news (by omega) hnews h1 h63 hbytes M.hb.2.2
 rcases hown.2 with ⟨h0, h00⟩ | ⟨g, cap2, cur, hv, hbg, hgg, hnc, hcm, hcsz, htake⟩
 ·omega
 ·subst hv
  obtain ⟨D, hD, hM⟩ := M.map
  have hlt : b < W.heap.size := by have := M.hb; omega
  have hrow : ∀ k, (HsV (f s)).ownBlock = some k → B ≤ k := fun k hk => ((M.rows s).lt k hk).1
  refine ⟨g, cap2, W2, hrun, ⟨⟨D, ?_, hM⟩, hown, fun t ht => (M.rows t).kept hgrow ?_, M.apart, fun t ht q hq e => ?_, M.below.grown hgrow M.below.size (fun k hk => by have := hrow k hk; have := M.hb; omega), M.hb.1, M.hb.2.1, Nat.le_trans M.hb.2.2 hgrow.size⟩, fun q hq hn => hgrow.block q hq (fun e => hn e.symm)⟩
  ·obtain ⟨es, c, h1, h2⟩ := hD
   exact ⟨es, c, (hgrow.block b hlt (fun e => by have := hrow b e.symm; have := M.hb; omega)).trans h1, h2⟩
  ·cases ho : (HsV (f t)).ownBlock with
   | none => exact .inl rfl
   | some q => exact .inr (fun e => M.apart t s ht q ho e.symm)
  ·have hq2 := ((M.rows t).lt q hq).2
   rcases hat with h | h
   ·rw [h] at e
    exact M.apart t s ht q hq e
   ·rw [h] at e
    have := Option.some.inj e
    omega
theorem MRm.put {s : ByteArray} {x : Hs} {Y : List Value} (M : MRm P kt et size B w W b k K f X s x Y) (hK : Keyed P kt) (hk : P.underlying kt = some .string) {t st : TypeId} (ht : P.underlying t = some (.map kt st)) (hs : s.size ≤ maxLen) (hn : k < maxLen) :
  ∃ W2, (Instr.mapUpdate t (.map (some b)) (.string s) (HsV x)).run P W = .ok () W2 ∧ MRo P kt et size B w W2 b (k + 1) (fun u => u = s ∨ K u) (fun u => if u = s then x else f u) (fun u => if u = s then Y else X u) ∧ ∀ q, q < W.heap.size → q ≠ b → W2.heap[q]? = W.heap[q]? := by
 obtain ⟨D, hD, hM⟩ := M.map
 have hmap := hD.isMap
 obtain ⟨W2, hr, ho, hg⟩ := hD.update hK ht hn (Go.WideMaps.keyOf_string_mk hk hs) (RSl_of x)
 have hne : ∀ (v : Value) (n : Nat) (xs : List Value), W.ownsRow B et size v n xs → v.ownBlock = none ∨ v.ownBlock ≠ some b := fun v n xs h => by
  cases hv : v.ownBlock with
  | none => exact .inl rfl
  | some q => exact .inr (fun e => by have := (h.lt q hv).1; have := M.hb; have := Option.some.inj e; omega)
 refine ⟨W2, hr, ⟨⟨_, ho, mpS_step hM hmap s x _ (if_pos rfl) (fun u hu => if_neg hu)⟩, fun u => ?_, fun u v huv g hg1 => ?_, M.below.grown hg M.below.size (fun j hj => by cases hj; exact M.hb.1), M.hb.1, M.hb.2.1, Nat.le_trans M.hb.2.2 hg.size⟩, fun q hq hn => hg.block q hq (fun e => hn (Option.some.inj e))⟩
 ·by_cases hu : u = s
  ·simp only [if_pos hu]
   exact M.row.kept hg (hne _ _ _ M.row)
  ·simp only [if_neg hu]
   exact (M.rows u hu).kept hg (hne _ _ _ (M.rows u hu))
 ·by_cases hu : u = s
  ·have hv : ¬ v = s := fun e => huv (hu.trans e.symm)
   simp only [if_pos hu, if_neg hv] at hg1 ⊢
   exact fun e => M.apartS v hv g e hg1
  ·by_cases hv : v = s
   ·simp only [if_neg hu, if_pos hv] at hg1 ⊢
    exact M.apartS u hu g hg1
   ·simp only [if_neg hu, if_neg hv] at hg1 ⊢
    exact M.apart u v huv g hg1
theorem step_appM {W W2 : World} {ops : Array Oper} {o : Oper} {a : Act} {K : Act → World → Prop} {Q : Exit → Act → World → Prop} {E : Prop} {v1 v2 v' : Value} {st : TypeId} (hgd : o.guard = none) (s x : Operand) (ho : o.op = .call { callee := .builtin .append, args := #[s, x], argTypes := #[st, st] })
  (hs : a.eval s = v1) (hx : a.eval x = v2) (hrun : (Builtin.append_ #[st, st] o.type #[v1, v2]).run P W = .ok v' W2) (hK : K (a.put o.dst v') W2) :
  if Region.wanted o (yielded ops a.tmps) = true then Oper.wp P o a W K Q else E := by
 have hw : Region.wanted o (yielded ops a.tmps) = true := by simp [Region.wanted, hgd]
 rw [if_pos hw]
 unfold Oper.wp
 simp [execOp, ho, resolve, invoke, builtin, hs, hx, hrun, Result.andThen]
 exact hK
theorem seq_appM {W W2 : World} {ops : Array Oper} {rest : List Oper} {o : Oper} {a : Act} {Q : Exit → Act → World → Prop} {v1 v2 v' : Value} {st : TypeId} (hgd : o.guard = none) (s x : Operand) (ho : o.op = .call { callee := .builtin .append, args := #[s, x], argTypes := #[st, st] })
  (hs : a.eval s = v1) (hx : a.eval x = v2) (hrun : (Builtin.append_ #[st, st] o.type #[v1, v2]).run P W = .ok v' W2) (hK : wpList P ops Q rest (a.put o.dst v') W2) : wpList P ops Q (o :: rest) a W :=
 wpList_plain hgd fun K hKK => by
  unfold Oper.wp
  simp [execOp, ho, resolve, invoke, builtin, hs, hx, hrun, Result.andThen]
  exact hKK _ _ hK
end Go.Proofs.YtalpnhfoaohhhaaGreat
namespace Go.Proofs.YtalpnhfoaohhhaaGreat
open Go.RowKit Go.Maps Go.Sort
def pvs (L : List Pv) : List Value := (L.map (fun p => (PC p).toList)).flatten
theorem pvs_append (L R : List Pv) : pvs (L ++ R) = pvs L ++ pvs R := by simp [pvs]
theorem pvs_one (p : Pv) : pvs [p] = (PC p).toList := by simp [pvs]
theorem pvs_length (L : List Pv) : (pvs L).length = L.length * 2 := by
 induction L with
 | nil => rfl
 | cons a L ih => have : pvs (a :: L) = (PC a).toList ++ pvs L := rfl; rw [this, List.length_append, ih]; simp [PC]; omega
theorem pvs_at (L : List Pv) (t j : Nat) (ht : t < L.length) (hj : j < 2) : (pvs L)[t * 2 + j]? = (PC L[t]).toList[j]? := by
 induction L generalizing t with
 | nil => simp at ht
 | cons a L ih =>
  have e : pvs (a :: L) = (PC a).toList ++ pvs L := rfl
  cases t with
  | zero => rw [e, List.getElem?_append_left (by simp [PC]; omega)]; simp
  | succ t =>
   rw [e, List.getElem?_append_right (by simp [PC]; omega)]
   have h := ih t (by simpa using ht)
   have e4 : (t + 1) * 2 + j - (PC a).toList.length = t * 2 + j := by simp [PC]; omega
   rw [e4, h]; simp
theorem pvs_cell (p : Pv) : ∀ v ∈ (PC p).toList, v.oneCell' = true := by
 intro v hv; simp [PC] at hv; rcases hv with rfl | rfl <;> rfl
theorem infoPast : (Tryz.prog.info? 26).map (fun i => (i.zero, i.size, i.bytes)) = some (some (.agg #[.slice none 0 0, .slice none 0 0]), 2, 48) := by kernel_rfl
theorem prow_of {W : World} {B : Nat} {h : Hs} {L : List Pv} (hr : W.ownsRow B 26 2 (HsV h) h.n (pvs L)) (hs : ∀ p ∈ L, PSrc W p) : PRow W h.o h.n L := by
 have hl : L.length = h.n := by have := hr.1; rw [pvs_length] at this; omega
 obtain ⟨o, n, c⟩ := h
 rcases hr.2 with ⟨h0, h00⟩ | ⟨g, cap, cur, hv, hbg, hgg, hnc, hcm, hcsz, htake⟩
 ·refine ⟨hl, fun _ => h00, fun ad e t p hp => ?_, hs⟩
  have := (List.getElem?_eq_some_iff.1 hp).1
  omega
 ·simp only [Value.slice.injEq] at hv
  obtain ⟨rfl, -, rfl⟩ := hv
  refine ⟨hl, fun e => (by cases e), fun ad e t p hp => ?_, hs⟩
  obtain rfl : (⟨g, 0, none⟩ : Addr) = ad := Option.some.inj e
  obtain ⟨ht, hpt⟩ := List.getElem?_eq_some_iff.1 hp
  have hc : ∀ j, j < 2 → W.cell? ⟨g, t * 2 + j, none⟩ = (PC p).toList[j]? := fun j hj => by
   have h1 := World.ownsRow.cellAt hr (t * 2 + j) (by dsimp only at hl ⊢; omega)
   rw [h1, pvs_at L t j ht hj, hpt]
  refine ⟨?_, ?_⟩
  ·rw [Addr.add_lit, Nat.zero_add]
   exact hc 0 (by omega)
  ·rw [Addr.add_lit, Addr.add_lit, Nat.zero_add]
   exact hc 1 (by omega)
theorem mp_app {w W : World} {b B k : Nat} {K : ByteArray → Prop} {f : ByteArray → Hs} {X : ByteArray → List Value} (M : MRo Tryz.prog 9 26 2 B w W b k K f X) (s : ByteArray) (p : Pv) (hn : (f s).n ≤ 2900000000000) :
  ∃ g c2 W2, (Builtin.append_ #[59, 59] 59 #[HsV (f s), .slice (some ⟨W.heap.size, 0, none⟩) 1 1]).run Tryz.prog (W.alloc (.cells (PC p) 26)) = .ok (.slice (some ⟨g, 0, none⟩) ((f s).n + 1) c2) W2 ∧ MRm Tryz.prog 9 26 2 B w W2 b k K f X s ⟨some ⟨g, 0, none⟩, (f s).n + 1, c2⟩ (X s ++ (PC p).toList) ∧ ∀ q, q < W.heap.size → (HsV (f s)).ownBlock ≠ some q → W2.heap[q]? = W.heap[q]? := by
 obtain ⟨i0, hi, hz0, hz1, hz2⟩ := info_parts infoPast
 obtain ⟨g, c2, W2, h1, h2, h3⟩ := (M.later (below_new W (.cells (PC p) 26))).app s (ty := 59) Tryz.underlying59 hi hz0 hz1 hz2 (by simp [Value.cells]) (by decide) ⟨W.heap.size, 0, none⟩ 1 (PC p).toList rfl (fun j u hj => by
  rw [Addr.add_lit, Nat.zero_add, World.cell?_alloc_new]
  simpa using hj) (pvs_cell p) (by unfold maxLen; omega) (by omega)
 exact ⟨g, c2, W2, h1, h2, fun q hq hn => (h3 q (by simp; omega) hn).trans (Below.heap_alloc W _ q hq)⟩
structure OwnP (B : Nat) (w W : World) (h : Hs) (L : List Pv) : Prop where
 own : W.ownsRow B 26 2 (HsV h) h.n (pvs L)
 src : ∀ p ∈ L, PSrc W p
 below : Below w.heap.size w W
 hB : w.heap.size ≤ B ∧ B ≤ W.heap.size
theorem OwnP.nil (w : World) : OwnP w.heap.size w w hs0 [] := ⟨World.ownsRow_nil _ _ _ _, fun p h => (by cases h), Below.refl _ _, Nat.le_refl _, Nat.le_refl _⟩
theorem OwnP.later {B : Nat} {w W W2 : World} {h : Hs} {L : List Pv} (O : OwnP B w W h L) (hb : Below W.heap.size W W2) : OwnP B w W2 h L := by
 refine ⟨O.own.kept (grown_of_below hb) ?_, fun p hp => (O.src p hp).below hb, O.below.trans (hb.mono O.below.size), O.hB.1, Nat.le_trans O.hB.2 hb.size⟩
 cases (HsV h).ownBlock with
 | none => exact .inl rfl
 | some g => exact .inr (by simp)
theorem OwnP.row {B : Nat} {w W : World} {h : Hs} {L : List Pv} (O : OwnP B w W h L) : PRow W h.o h.n L := prow_of O.own O.src
end Go.Proofs.YtalpnhfoaohhhaaGreat
namespace Go.Proofs.YtalpnhfoaohhhaaGreat
open Go.RowKit Go.Maps Go.Sort
theorem psrc_keep {W W' : World} {p : Pv} {g : Option Nat} (h : PSrc W p) (hf : ∀ k, g = some k → PFar p k) (hk : ∀ q, q < W.heap.size → some q ≠ g → W'.heap[q]? = W.heap[q]?) : PSrc W' p := by
 have ev : ∀ ad, p.vo = some ad → ∀ t, t < p.vn → W'.cell? (ad.add t) = W.cell? (ad.add t) := fun ad e t ht => by
  have hc := h.vec.2.2 ad e t ht
  have hl := World.block_lt_of_cell? _ _ hc
  rw [block_add] at hl
  unfold World.cell?
  rw [block_add, hk _ hl (fun eg => (hf _ eg.symm).1 (by omega) ad e rfl)]
 have ec : ∀ ad, p.co = some ad → ∀ t, t < p.cn → ∀ j, W'.cell? (ad.add j) = W.cell? (ad.add j) := fun ad e t ht j => by
  have hl := World.block_lt_of_cell? _ _ (h.cloud.cell ad e t ht).c0
  rw [block_add] at hl
  unfold World.cell?
  rw [block_add, hk _ hl (fun eg => (hf _ eg.symm).2 (by omega) ad e rfl)]
 refine ⟨⟨h.vec.1, h.vec.2.1, fun ad e t ht => by rw [ev ad e t ht]; exact h.vec.2.2 ad e t ht⟩, ⟨h.cloud.len, h.cloud.nil, fun ad e t ht => ?_, h.cloud.big, h.cloud.cap⟩, h.big⟩
 have A := h.cloud.cell ad e t ht
 have e' := ec ad e t ht
 exact ⟨by rw [e']; exact A.c0, by have := A.c1; rw [add_add] at this ⊢; rw [e']; exact this, by have := A.c2; rw [add_add] at this ⊢; rw [e']; exact this⟩
def FarH (h : Hs) (p : Pv) : Prop := ∀ k, (HsV h).ownBlock = some k → PFar p k
theorem OwnP.app {B : Nat} {w W : World} {h : Hs} {L : List Pv} (O : OwnP B w W h L) (hF : ∀ p ∈ L, FarH h p) (p : Pv) (hp : PSrc W p) (hf : FarH h p) (hn : h.n ≤ 2900000000000) :
  ∃ g c2 W2, (Builtin.append_ #[59, 59] 59 #[HsV h, .slice (some ⟨W.heap.size, 0, none⟩) 1 1]).run Tryz.prog (W.alloc (.cells (PC p) 26)) = .ok (.slice (some ⟨g, 0, none⟩) (h.n + 1) c2) W2 ∧ OwnP B w W2 ⟨some ⟨g, 0, none⟩, h.n + 1, c2⟩ (L ++ [p]) ∧ (∀ q ∈ L ++ [p], FarH ⟨some ⟨g, 0, none⟩, h.n + 1, c2⟩ q) ∧ (∀ q, q < W.heap.size → (HsV h).ownBlock ≠ some q → W2.heap[q]? = W.heap[q]?) := by
 obtain ⟨i0, hi, hz0, hz1, hz2⟩ := info_parts infoPast
 have b1 := below_new W (.cells (PC p) 26)
 have O1 := O.later b1
 obtain ⟨v', W2, hrun, hown, hgrow, _, hat⟩ := run_append_own_at (P := Tryz.prog) (W.alloc (.cells (PC p) 26)) B 59 59 26 i0 (.agg #[.slice none 0 0, .slice none 0 0]) 2 48 Tryz.underlying59 hi hz0 hz1 hz2 (by simp [Value.cells]) (by decide) (HsV h) h.n (pvs L) O1.own ⟨W.heap.size, 0, none⟩ 1 1 (PC p).toList rfl (fun j u hj => by
  rw [Addr.add_lit, Nat.zero_add, World.cell?_alloc_new]
  simpa using hj) (pvs_cell p) (by unfold maxLen; omega) (by omega) O1.hB.2
 rcases hown.2 with ⟨h0, h00⟩ | ⟨g, cap2, cur, hv, hbg, hgg, hnc, hcm, hcsz, htake⟩
 ·omega
 ·subst hv
  have hall : ∀ q ∈ L ++ [p], PSrc (W.alloc (.cells (PC p) 26)) q ∧ FarH h q := fun q hq => by
   rcases List.mem_append.1 hq with hq | hq
   ·exact ⟨O1.src q hq, hF q hq⟩
   ·obtain rfl : q = p := by simpa using hq
    exact ⟨hp.below b1, hf⟩
  have hrow : ∀ k, (HsV h).ownBlock = some k → B ≤ k := fun k hk => (O1.own.lt k hk).1
  refine ⟨g, cap2, W2, hrun, ⟨by rw [pvs_append, pvs_one]; exact hown, fun q hq => psrc_keep (hall q hq).1 (fun k hk => (hall q hq).2 k hk) (fun k hk hn => hgrow.block k hk hn), O1.below.grown hgrow O1.below.size (fun k hk => by have := hrow k hk; have := O.hB; omega), O.hB.1, Nat.le_trans O1.hB.2 hgrow.size⟩, fun q hq k hk => ?_, fun q hq hn => (hgrow.block q (by simp; omega) (fun e => hn e.symm)).trans (Below.heap_alloc W _ q hq)⟩
  rcases hat with e | e
  ·exact (hall q hq).2 k (by rw [← e]; exact hk)
  ·rw [e] at hk
   have := Option.some.inj hk
   exact PFar.old (hall q hq).1 (by omega)
/-! ### records -/
def rvs (L : List Rc) : List Value := (L.map (fun r => (ReC (mkR r)).toList)).flatten
theorem rvs_append (L R : List Rc) : rvs (L ++ R) = rvs L ++ rvs R := by simp [rvs]
theorem rvs_one (r : Rc) : rvs [r] = (ReC (mkR r)).toList := by simp [rvs]
theorem rvs_length (L : List Rc) : (rvs L).length = L.length * 3 := by
 induction L with
 | nil => rfl
 | cons a L ih => have : rvs (a :: L) = (ReC (mkR a)).toList ++ rvs L := rfl; rw [this, List.length_append, ih]; simp [ReC]; omega
theorem rvs_at (L : List Rc) (t j : Nat) (ht : t < L.length) (hj : j < 3) : (rvs L)[t * 3 + j]? = (ReC (mkR (L.getD t rc0))).toList[j]? := by
 induction L generalizing t with
 | nil => simp at ht
 | cons a L ih =>
  have e : rvs (a :: L) = (ReC (mkR a)).toList ++ rvs L := rfl
  cases t with
  | zero => rw [e, List.getElem?_append_left (by simp [ReC]; omega)]; simp [List.getD]
  | succ t =>
   rw [e, List.getElem?_append_right (by simp [ReC]; omega)]
   have h := ih t (by simpa using ht)
   have e4 : (t + 1) * 3 + j - (ReC (mkR a)).toList.length = t * 3 + j := by simp [ReC]; omega
   rw [e4, h]; simp [List.getD]
theorem rvs_cell (r : Rc) : ∀ v ∈ (ReC (mkR r)).toList, v.oneCell' = true := by
 intro v hv; simp [ReC] at hv; rcases hv with rfl | rfl | rfl <;> rfl
theorem infoRec : (Tryz.prog.info? 62).map (fun i => (i.zero, i.size, i.bytes)) = some (some (.agg #[.string ⟨#[]⟩, .slice none 0 0, .slice none 0 0]), 3, 64) := by kernel_rfl
structure OwnRc (B : Nat) (w W : World) (h : Hs) (L : List Rc) : Prop where
 own : W.ownsRow B 62 3 (HsV h) h.n (rvs L)
 ok : ∀ r ∈ L, RcOk W r ∧ FarH h r.p
 below : Below w.heap.size w W
 hB : w.heap.size ≤ B ∧ B ≤ W.heap.size
theorem OwnRc.nil (w : World) : OwnRc w.heap.size w w hs0 [] := ⟨World.ownsRow_nil _ _ _ _, fun p h => (by cases h), Below.refl _ _, Nat.le_refl _, Nat.le_refl _⟩
theorem OwnRc.later {B : Nat} {w W W2 : World} {h : Hs} {L : List Rc} (O : OwnRc B w W h L) (hb : Below W.heap.size W W2) : OwnRc B w W2 h L := by
 refine ⟨O.own.kept (grown_of_below hb) ?_, fun p hp => ⟨(O.ok p hp).1.below hb, (O.ok p hp).2⟩, O.below.trans (hb.mono O.below.size), O.hB.1, Nat.le_trans O.hB.2 hb.size⟩
 cases (HsV h).ownBlock with
 | none => exact .inl rfl
 | some g => exact .inr (by simp)
theorem OwnRc.app {B : Nat} {w W : World} {h : Hs} {L : List Rc} (O : OwnRc B w W h L) (r : Rc) (hp : RcOk W r) (hf : FarH h r.p) (hn : h.n ≤ 2199023255551) :
  ∃ g c2 W2, (Builtin.append_ #[27, 27] 27 #[HsV h, .slice (some ⟨W.heap.size, 0, none⟩) 1 1]).run Tryz.prog (W.alloc (.cells (ReC (mkR r)) 62)) = .ok (.slice (some ⟨g, 0, none⟩) (h.n + 1) c2) W2 ∧ OwnRc B w W2 ⟨some ⟨g, 0, none⟩, h.n + 1, c2⟩ (L ++ [r]) ∧ (∀ q, q < W.heap.size → (HsV h).ownBlock ≠ some q → W2.heap[q]? = W.heap[q]?) := by
 obtain ⟨i0, hi, hz0, hz1, hz2⟩ := info_parts infoRec
 have b1 := below_new W (.cells (ReC (mkR r)) 62)
 have O1 := O.later b1
 obtain ⟨v', W2, hrun, hown, hgrow, _, hat⟩ := run_append_own_at (P := Tryz.prog) (W.alloc (.cells (ReC (mkR r)) 62)) B 27 27 62 i0 (.agg #[.string ⟨#[]⟩, .slice none 0 0, .slice none 0 0]) 3 64 Tryz.underlying27 hi hz0 hz1 hz2 (by simp [Value.cells]) (by decide) (HsV h) h.n (rvs L) O1.own ⟨W.heap.size, 0, none⟩ 1 1 (ReC (mkR r)).toList rfl (fun j u hj => by
  rw [Addr.add_lit, Nat.zero_add, World.cell?_alloc_new]
  simpa using hj) (rvs_cell r) (by unfold maxLen; omega) (by omega) O1.hB.2
 rcases hown.2 with ⟨h0, h00⟩ | ⟨g, cap2, cur, hv, hbg, hgg, hnc, hcm, hcsz, htake⟩
 ·omega
 ·subst hv
  have hall : ∀ q ∈ L ++ [r], RcOk (W.alloc (.cells (ReC (mkR r)) 62)) q ∧ FarH h q.p := fun q hq => by
   rcases List.mem_append.1 hq with hq | hq
   ·exact O1.ok q hq
   ·obtain rfl : q = r := by simpa using hq
    exact ⟨hp.below b1, hf⟩
  have hrow : ∀ k, (HsV h).ownBlock = some k → B ≤ k := fun k hk => (O1.own.lt k hk).1
  refine ⟨g, cap2, W2, hrun, ⟨by rw [rvs_append, rvs_one]; exact hown, fun q hq => ⟨⟨psrc_keep (hall q hq).1.1 (fun k hk => (hall q hq).2 k hk) (fun k hk hn => hgrow.block k hk hn), (hall q hq).1.2⟩, fun k hk => ?_⟩, O1.below.grown hgrow O1.below.size (fun k hk => by have := hrow k hk; have := O.hB; omega), O.hB.1, Nat.le_trans O1.hB.2 hgrow.size⟩, fun q hq hn => (hgrow.block q (by simp; omega) (fun e => hn e.symm)).trans (Below.heap_alloc W _ q hq)⟩
  rcases hat with e | e
  ·exact (hall q hq).2 k (by rw [← e]; exact hk)
  ·rw [e] at hk
   have := Option.some.inj hk
   exact PFar.old (hall q hq).1.1 (by omega)
theorem OwnRc.src {B : Nat} {w W : World} {h : Hs} {L : List Rc} (O : OwnRc B w W h L) (hn : h.n ≤ 2199023255552) : RcS W h.o h.n h.c L := by
 have hl : L.length = h.n := by have := O.own.1; rw [rvs_length] at this; omega
 have hok : ∀ r ∈ L, RcOk W r := fun r hr => (O.ok r hr).1
 have hr := O.own
 obtain ⟨o, n, c⟩ := h
 rcases hr.2 with ⟨h0, h00⟩ | ⟨g, cap, cur, hv, hbg, hgg, hnc, hcm, hcsz, htake⟩
 ·refine ⟨hl, fun _ => h00, fun ad e t ht => ?_, hok, hn⟩
  omega
 ·simp only [Value.slice.injEq] at hv
  obtain ⟨rfl, -, rfl⟩ := hv
  refine ⟨hl, fun e => (by cases e), fun ad e t ht => ?_, hok, hn⟩
  obtain rfl : (⟨g, 0, none⟩ : Addr) = ad := Option.some.inj e
  have hc : ∀ j, j < 3 → W.cell? ⟨g, t * 3 + j, none⟩ = (ReC (mkR (L.getD t rc0))).toList[j]? := fun j hj => by
   have h1 := World.ownsRow.cellAt hr (t * 3 + j) (by dsimp only at ht ⊢; omega)
   rw [h1, rvs_at L t j (by omega) hj]
  refine ⟨?_, ?_, ?_⟩
  ·rw [Addr.add_lit, Nat.zero_add]
   exact hc 0 (by omega)
  ·rw [Addr.add_lit, Addr.add_lit, Nat.zero_add]
   exact hc 1 (by omega)
  ·rw [Addr.add_lit, Addr.add_lit, Nat.zero_add]
   exact hc 2 (by omega)
end Go.Proofs.YtalpnhfoaohhhaaGreat
namespace Go.Proofs
open Go.Shelf
def Tryz.growRe_ren : Go.Shelf.Ren := ⟨fun | 4 => 105 | n => n, fun | 22 => 27 | 25 => 62 | 3 => 3 | 4 => 4 | 9 => 9 | 20 => 20 | 0 => 0 | n => n, fun | n => n⟩
theorem Tryz.growRe : Go.Proofs.Lays8.n4 Tryz.prog Tryz.growRe_ren := {
 mixed := by kernel_rfl
 f4 := ⟨Tryz.f105.name, by decide, Tryz.func105.trans (congrArg some (by kernel_rfl))⟩
 t0 := Tryz.underlying0
 a0 := Tryz.isAgg0
 z0 := Tryz.sizeOf0
 v0 := Tryz.zeroValue0
 t3 := Tryz.underlying3
 a3 := Tryz.isAgg3
 z3 := Tryz.sizeOf3
 v3 := Tryz.zeroValue3
 t4 := Tryz.underlying4
 a4 := Tryz.isAgg4
 z4 := Tryz.sizeOf4
 v4 := Tryz.zeroValue4
 t9 := Tryz.underlying9
 a9 := Tryz.isAgg9
 z9 := Tryz.sizeOf9
 v9 := Tryz.zeroValue9
 t20 := Tryz.underlying20
 a20 := Tryz.isAgg20
 z20 := Tryz.sizeOf20
 v20 := Tryz.zeroValue20
 t22 := Tryz.underlying27
 a22 := Tryz.isAgg27
 z22 := Tryz.sizeOf27
 v22 := Tryz.zeroValue27 }
end Go.Proofs
