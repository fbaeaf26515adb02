/- EFa BCn BAo BMp BMr BPr BPg Lit BKe PLp BFp -/
import Derived.Test.YtmbkmpeongodbaaGreatTk
import Derived.Test.YtmbkmpeongodbaaGreatAj20
import Derived.Test.YtmbkmpeongodbaaGreatAj10
import Derived.Deep.CutRange
import Derived.Test.YtmbkmpeongodbaaGreatAj06
import Derived.Test.YtmbkmpeongodbaaGreatAj19
import Derived.Sort.KeysCollected
import Derived.Maps.Ext
import Derived.Maps.OwnOps
import Derived.StringKeys
import Derived.Below
import Derived.Maps.AppendAt
import Derived.Laws.OwnMore
import Derived.Test.YtmbkmpeongodbaaGreatAj16
import Derived.Shelf.SlIter.Nil
import Derived.Shelf.SortM.Plain
import Derived.Shelf.SortM.SortNone
import Derived.Test.YtmbkmpeongodbaaGreatProg
import Derived.Test.YtmbkmpeongodbaaGreatAj09
import Derived.Test.YtmbkmpeongodbaaGreatAj14
import Derived.Test.YtmbkmpeongodbaaGreatAj05
namespace Go.Proofs.YtmbkmpeongodbaaGreat
open Go.RowKit
attribute [local go_sem ↓] ldP_eq stP_eq ldRe_eq stRe_eq ldD_eq stD_eq K.ld28_eq K.st28_eq K.run_eq28
attribute [local go_sem] cells_PV PC_size cells_ReV ReC_size K.cells_EV K.EC_size zero_ReC K.zero_EC
theorem list_ext {s u : ByteArray} (h : s.toList = u.toList) : s = u := by
 rw [ByteArray.toList_eq, ByteArray.toList_eq] at h
 exact ByteArray.ext (Array.ext' h)
theorem eqE_iff (x y : K.En) : K.eqE x y = true ↔ x = y := by
 obtain ⟨a, b, s, q⟩ := x
 obtain ⟨a', b', s', q'⟩ := y
 simp only [K.eqE, Bool.and_eq_true, beq_iff_eq, K.En.mk.injEq]
 constructor
 ·rintro ⟨⟨⟨h1, h2⟩, h3⟩, h4⟩
  exact ⟨h1, h2, list_ext h3, h4⟩
 ·rintro ⟨h1, h2, h3, h4⟩
  exact ⟨⟨⟨h1, h2⟩, by rw [h3]⟩, h4⟩
theorem below_drewB {n : Nat} {w W : World} (h : Below n w W) : Below n w W.drew := ⟨h.os, h.tape, h.output, h.size, h.block⟩
set_option maxRecDepth 100000 in
set_option maxHeartbeats 1600000 in
theorem entries08_any (ao bo : Option Addr) (n m ca cb : Nat) (L M : List K.En) (w : World) (hL : K.ESrc w ao n ca L) (hM : K.ESrc w bo m cb M) : Calls Tryz.prog 35 #[.slice ao n ca, .slice bo m cb] w fun e w' => GivesB w w' e (L = M) := by
 have HL := hide hL
 have HM := hide hM
 have hn := hL.2.2.2.2
 have hm := hM.2.2.2.2
 have HLl : Hid (L.length = n ∧ M.length = m) := ⟨hL.1, hM.1⟩
 clear hL hM
 by_cases hnm : n = m
 ·subst hnm
  go_enter Tryz.func35, Tryz.ntmps35
  go_wp2_with fail
  go_loopw [5] (fun i wr => ∃ k : Nat, k ≤ n ∧ i = .int .i64 k ∧ Hid (L.take k = M.take k ∧ Below w.heap.size w wr)) (fun i _ => n - (intOf i).toNat)
  case atStart => exact ⟨0, Nat.zero_le _, rfl, rfl, Below.refl _ _⟩
  case round =>
   obtain ⟨k, hk, rfl, HK⟩ := hrel
   rename World => wr
   by_cases hlt : k < n
   ·obtain ⟨ad, rfl, A0⟩ := (HL.out.below HK.out.2).at k hlt
    obtain ⟨bd, rfl, B0⟩ := (HM.out.below HK.out.2).at k hlt
    obtain ⟨x, Hx⟩ : ∃ x, Hid (L.getD k K.en0 = x) := ⟨_, rfl⟩
    obtain ⟨y, Hy⟩ : ∃ y, Hid (M.getD k K.en0 = y) := ⟨_, rfl⟩
    rw [Hx.out] at A0
    rw [Hy.out] at B0
    have HA := hide A0
    have HB := hide B0
    clear A0 B0
    have HTk : Hid (L.take (k + 1) = L.take k ++ [x] ∧ M.take (k + 1) = M.take k ++ [y]) := ⟨by rw [K.take_snoc L k (by have := HLl.out; omega), Hx.out], by rw [K.take_snoc M k (by have := HLl.out; omega), Hy.out]⟩
    have Hlt := hide hlt
    go_upto_region 6 with fail
    refine wp_region_held_drew (S := fun v => (K.ld28 (.pointer (some (ad.add (k * 4))))).run Tryz.prog v = .ok (K.EV x) v ∧ (K.ld28 (.pointer (some (bd.add (k * 4))))).run Tryz.prog v = .ok (K.EV y) v) (by kernel_rfl) (⟨K.run_ld28 (HA.out.on (below_drew1 wr)), K.run_ld28 (HB.out.on (below_drew1 wr))⟩) (fun hHeld => ?_)
    refine wTk 0 ⟨some 17, .move (.tmp 0), 22, "law.go:33", #[], none⟩ rfl ?_
    refine wTk 1 ⟨some 18, .move (.tmp 5), 3, "law.go:33", #[], none⟩ rfl ?_
    refine wTk 2 ⟨some 19, .indexAddr 22 (.tmp 17) (.tmp 18), 0, "law.go:33", #[⟨0, .data⟩, ⟨1, .data⟩], none⟩ rfl ?_
    refine wTk 3 ⟨some 20, .load 46 (.tmp 19), 46, "law.go:33", #[⟨2, .data⟩], none⟩ rfl ?_
    refine wTk 4 ⟨some 21, .move (.tmp 1), 22, "law.go:33", #[], none⟩ rfl ?_
    refine wTk 5 ⟨some 22, .move (.tmp 5), 3, "law.go:33", #[], none⟩ rfl ?_
    refine wTk 6 ⟨some 23, .indexAddr 22 (.tmp 21) (.tmp 22), 0, "law.go:33", #[⟨4, .data⟩, ⟨5, .data⟩], none⟩ rfl ?_
    refine wTk 7 ⟨some 24, .load 46 (.tmp 23), 46, "law.go:33", #[⟨6, .data⟩], none⟩ rfl ?_
    cases hxy : K.eqE x y with
    | false =>
     refine wTk 8 ⟨some 25, .binOp .neq 46 (.tmp 20) (.tmp 24) 46, 4, "law.go:33", #[⟨3, .data⟩, ⟨7, .data⟩], none⟩ rfl ?_
     refine wpAnyH_done (by kernel_rfl) ?_ _
     clear hHeld
     have HF : Hid (GivesB w wr.drew (.returned (.bool false)) (L = M)) := by
      refine ⟨false, rfl, ⟨(fun h => by cases h), fun h => ?_⟩, below_drewB HK.out.2⟩
      have : x = y := by rw [← Hx.out, ← Hy.out, h]
      rw [(eqE_iff x y).2 this] at hxy
      cases hxy
     clear hxy
     go_wp2_with fail
     go_ret
     exact HF.out
    | true =>
     refine wTk 8 ⟨some 25, .binOp .neq 46 (.tmp 20) (.tmp 24) 46, 4, "law.go:33", #[⟨3, .data⟩, ⟨7, .data⟩], none⟩ rfl ?_
     refine wpAnyH_done (by kernel_rfl) ?_ _
     clear hHeld
     have HE : Hid (L.take (k + 1) = M.take (k + 1)) := by show _ = _; rw [HTk.out.1, HTk.out.2, HK.out.1, (eqE_iff x y).1 hxy]
     clear hxy
     go_wp2_with fail
     go_roundw
     case rel => exact ⟨k + 1, by omega, by simp, HE.out, below_drewB HK.out.2⟩
     case measure => simp [intOf]; omega
   ·obtain rfl : k = n := by omega
    have HF : Hid (GivesB w wr (.returned (.bool true)) (L = M)) := by
     refine ⟨true, rfl, ⟨fun _ => ?_, fun _ => rfl⟩, HK.out.2⟩
     have h := HK.out.1
     rw [List.take_of_length_le (by have := HLl.out; omega), List.take_of_length_le (by have := HLl.out; omega)] at h
     exact h
    go_wp2_with fail
    go_ret
    exact HF.out
 ·have hne : ((n : Int) != (m : Int)) = true := by simp; omega
  have HF : Hid (GivesB w w (.returned (.bool false)) (L = M)) := ⟨false, rfl, ⟨(fun h => by cases h), fun h => by rw [h] at HLl; have := HLl.out; omega⟩, Below.refl _ _⟩
  go_enter Tryz.func35, Tryz.ntmps35
  go_wp2_with fail
  go_ret
  exact HF.out
end Go.Proofs.YtmbkmpeongodbaaGreat
namespace Go.Proofs.YtmbkmpeongodbaaGreat
open Go.RowKit
end Go.Proofs.YtmbkmpeongodbaaGreat
namespace Go.Proofs.YtmbkmpeongodbaaGreat
open Go.RowKit
theorem ok_chk {L : List K.En} {n : Nat} (hl : L.length = n) : K.chk L = 0 ↔ K.okN L n = true := by
 unfold K.chk
 rw [hl]
 cases K.okN L n <;> simp
def freeB (R : List Rc) (e : K.En) : Bool := !R.any (fun r => covB r e)
def ApA (w w' : World) (x : Ending) (L : List K.En) (R : List Rc) (n : Nat) : Prop := (K.chk L = 0 ∧ OkR R n ∧ K.GivesEE w w' x (L.filter (freeB R)) 0) ∨ (¬ (K.chk L = 0 ∧ OkR R n) ∧ K.GivesEE w w' x [] 1)
end Go.Proofs.YtmbkmpeongodbaaGreat
namespace Go.Proofs.YtmbkmpeongodbaaGreat
open Go.RowKit Go.Maps Go.Sort
structure Hs where
 o : Option Addr
 n : Nat
 c : Nat
def hs0 : Hs := ⟨none, 0, 0⟩
abbrev HsV (s : Hs) : Value := .slice s.o s.n s.c
def RSl (v : Value) : Option (DataW Hs × List MemPlace) :=
 match v with
 | .slice o n c => some (.held ⟨o, n, c⟩, [])
 | _ => none
def MpS (D : DataW Hs) (K : ByteArray → Prop) (f : ByteArray → Hs) : Prop := (∀ s : ByteArray, has D (.string s.data.toList) = true ↔ K s) ∧ ∀ s : ByteArray, D.atKey (.string s.data.toList) (.held hs0) = .held (f s)
end Go.Proofs.YtmbkmpeongodbaaGreat
namespace Go.Proofs.YtmbkmpeongodbaaGreat
open Go.RowKit Go.Maps Go.Sort
variable {P : Program} {kt et : TypeId} {size B : Nat} {w W W2 : World} {b k : Nat} {K : ByteArray → Prop} {f : ByteArray → Hs} {X : ByteArray → List Value}
structure MRo (P : Program) (kt et : TypeId) (size B : Nat) (w W : World) (b k : Nat) (K : ByteArray → Prop) (f : ByteArray → Hs) (X : ByteArray → List Value) : Prop where
 map : ∃ D, W.ownsMap P kt RSl b k D ∧ MpS D K f
 rows : ∀ s, W.ownsRow B et size (HsV (f s)) (f s).n (X s)
 apart : ∀ s t, s ≠ t → ∀ g, (HsV (f s)).ownBlock = some g → (HsV (f t)).ownBlock ≠ some g
 below : Below w.heap.size w W
 hb : w.heap.size ≤ b ∧ b < B ∧ B ≤ W.heap.size
structure MRm (P : Program) (kt et : TypeId) (size B : Nat) (w W : World) (b k : Nat) (K : ByteArray → Prop) (f : ByteArray → Hs) (X : ByteArray → List Value) (s : ByteArray) (x : Hs) (Y : List Value) : Prop where
 map : ∃ D, W.ownsMap P kt RSl b k D ∧ MpS D K f
 row : W.ownsRow B et size (HsV x) x.n Y
 rows : ∀ t, t ≠ s → W.ownsRow B et size (HsV (f t)) (f t).n (X t)
 apart : ∀ t u, t ≠ u → ∀ g, (HsV (f t)).ownBlock = some g → (HsV (f u)).ownBlock ≠ some g
 apartS : ∀ t, t ≠ s → ∀ g, (HsV (f t)).ownBlock = some g → (HsV x).ownBlock ≠ some g
 below : Below w.heap.size w W
 hb : w.heap.size ≤ b ∧ b < B ∧ B ≤ W.heap.size
end Go.Proofs.YtmbkmpeongodbaaGreat
namespace Go.Proofs.YtmbkmpeongodbaaGreat
open Go.RowKit Go.Maps Go.Sort
def pvs (L : List Pv) : List Value := (L.map (fun p => (PC p).toList)).flatten
theorem pvs_length (L : List Pv) : (pvs L).length = L.length * 2 := by
 induction L with
 | nil => rfl
 | cons a L ih => have : pvs (a :: L) = (PC a).toList ++ pvs L := rfl; rw [this, List.length_append, ih]; simp [PC]; omega
theorem pvs_at (L : List Pv) (t j : Nat) (ht : t < L.length) (hj : j < 2) : (pvs L)[t * 2 + j]? = (PC L[t]).toList[j]? := by
 induction L generalizing t with
 | nil => simp at ht
 | cons a L ih =>
  have e : pvs (a :: L) = (PC a).toList ++ pvs L := rfl
  cases t with
  | zero => rw [e, List.getElem?_append_left (by simp [PC]; omega)]; simp
  | succ t =>
   rw [e, List.getElem?_append_right (by simp [PC]; omega)]
   have h := ih t (by simpa using ht)
   have e4 : (t + 1) * 2 + j - (PC a).toList.length = t * 2 + j := by simp [PC]; omega
   rw [e4, h]; simp
theorem prow_of {W : World} {B : Nat} {h : Hs} {L : List Pv} (hr : W.ownsRow B 26 2 (HsV h) h.n (pvs L)) (hs : ∀ p ∈ L, PSrc W p) : PRow W h.o h.n L := by
 have hl : L.length = h.n := by have := hr.1; rw [pvs_length] at this; omega
 obtain ⟨o, n, c⟩ := h
 rcases hr.2 with ⟨h0, h00⟩ | ⟨g, cap, cur, hv, hbg, hgg, hnc, hcm, hcsz, htake⟩
 ·refine ⟨hl, fun _ => h00, fun ad e t p hp => ?_, hs⟩
  have := (List.getElem?_eq_some_iff.1 hp).1
  omega
 ·simp only [Value.slice.injEq] at hv
  obtain ⟨rfl, -, rfl⟩ := hv
  refine ⟨hl, fun e => (by cases e), fun ad e t p hp => ?_, hs⟩
  obtain rfl : (⟨g, 0, none⟩ : Addr) = ad := Option.some.inj e
  obtain ⟨ht, hpt⟩ := List.getElem?_eq_some_iff.1 hp
  have hc : ∀ j, j < 2 → W.cell? ⟨g, t * 2 + j, none⟩ = (PC p).toList[j]? := fun j hj => by
   have h1 := World.ownsRow.cellAt hr (t * 2 + j) (by dsimp only at hl ⊢; omega)
   rw [h1, pvs_at L t j ht hj, hpt]
  refine ⟨?_, ?_⟩
  ·rw [Addr.add_lit, Nat.zero_add]
   exact hc 0 (by omega)
  ·rw [Addr.add_lit, Addr.add_lit, Nat.zero_add]
   exact hc 1 (by omega)
structure OwnP (B : Nat) (w W : World) (h : Hs) (L : List Pv) : Prop where
 own : W.ownsRow B 26 2 (HsV h) h.n (pvs L)
 src : ∀ p ∈ L, PSrc W p
 below : Below w.heap.size w W
 hB : w.heap.size ≤ B ∧ B ≤ W.heap.size
theorem OwnP.nil (w : World) : OwnP w.heap.size w w hs0 [] := ⟨World.ownsRow_nil _ _ _ _, fun p h => (by cases h), Below.refl _ _, Nat.le_refl _, Nat.le_refl _⟩
theorem OwnP.row {B : Nat} {w W : World} {h : Hs} {L : List Pv} (O : OwnP B w W h L) : PRow W h.o h.n L := prow_of O.own O.src
end Go.Proofs.YtmbkmpeongodbaaGreat
namespace Go.Proofs.YtmbkmpeongodbaaGreat
open Go.RowKit Go.Maps Go.Sort
def FarH (h : Hs) (p : Pv) : Prop := ∀ k, (HsV h).ownBlock = some k → PFar p k
/-! ### records -/
def rvs (L : List Rc) : List Value := (L.map (fun r => (ReC (mkR r)).toList)).flatten
theorem rvs_length (L : List Rc) : (rvs L).length = L.length * 3 := by
 induction L with
 | nil => rfl
 | cons a L ih => have : rvs (a :: L) = (ReC (mkR a)).toList ++ rvs L := rfl; rw [this, List.length_append, ih]; simp [ReC]; omega
theorem rvs_at (L : List Rc) (t j : Nat) (ht : t < L.length) (hj : j < 3) : (rvs L)[t * 3 + j]? = (ReC (mkR (L.getD t rc0))).toList[j]? := by
 induction L generalizing t with
 | nil => simp at ht
 | cons a L ih =>
  have e : rvs (a :: L) = (ReC (mkR a)).toList ++ rvs L := rfl
  cases t with
  | zero => rw [e, List.getElem?_append_left (by simp [ReC]; omega)]; simp [List.getD]
  | succ t =>
   rw [e, List.getElem?_append_right (by simp [ReC]; omega)]
   have h := ih t (by simpa using ht)
   have e4 : (t + 1) * 3 + j - (ReC (mkR a)).toList.length = t * 3 + j := by simp [ReC]; omega
   rw [e4, h]; simp [List.getD]
structure OwnRc (B : Nat) (w W : World) (h : Hs) (L : List Rc) : Prop where
 own : W.ownsRow B 65 3 (HsV h) h.n (rvs L)
 ok : ∀ r ∈ L, RcOk W r ∧ FarH h r.p
 below : Below w.heap.size w W
 hB : w.heap.size ≤ B ∧ B ≤ W.heap.size
theorem OwnRc.nil (w : World) : OwnRc w.heap.size w w hs0 [] := ⟨World.ownsRow_nil _ _ _ _, fun p h => (by cases h), Below.refl _ _, Nat.le_refl _, Nat.le_refl _⟩
theorem OwnRc.src {B : Nat} {w W : World} {h : Hs} {L : List Rc} (O : OwnRc B w W h L) (hn : h.n ≤ 2199023255552) : RcS W h.o h.n h.c L := by
 have hl : L.length = h.n := by have := O.own.1; rw [rvs_length] at this; omega
 have hok : ∀ r ∈ L, RcOk W r := fun r hr => (O.ok r hr).1
 have hr := O.own
 obtain ⟨o, n, c⟩ := h
 rcases hr.2 with ⟨h0, h00⟩ | ⟨g, cap, cur, hv, hbg, hgg, hnc, hcm, hcsz, htake⟩
 ·refine ⟨hl, fun _ => h00, fun ad e t ht => ?_, hok, hn⟩
  omega
 ·simp only [Value.slice.injEq] at hv
  obtain ⟨rfl, -, rfl⟩ := hv
  refine ⟨hl, fun e => (by cases e), fun ad e t ht => ?_, hok, hn⟩
  obtain rfl : (⟨g, 0, none⟩ : Addr) = ad := Option.some.inj e
  have hc : ∀ j, j < 3 → W.cell? ⟨g, t * 3 + j, none⟩ = (ReC (mkR (L.getD t rc0))).toList[j]? := fun j hj => by
   have h1 := World.ownsRow.cellAt hr (t * 3 + j) (by dsimp only at ht ⊢; omega)
   rw [h1, rvs_at L t j (by omega) hj]
  refine ⟨?_, ?_, ?_⟩
  ·rw [Addr.add_lit, Nat.zero_add]
   exact hc 0 (by omega)
  ·rw [Addr.add_lit, Addr.add_lit, Nat.zero_add]
   exact hc 1 (by omega)
  ·rw [Addr.add_lit, Addr.add_lit, Nat.zero_add]
   exact hc 2 (by omega)
end Go.Proofs.YtmbkmpeongodbaaGreat
namespace Go.Proofs
open Go.Shelf
def Tryz.keysM_ren : Go.Shelf.Ren := ⟨fun | 7 => 122 | 10 => 159 | n => n, fun | 23 => 161 | 26 => 9 | 3 => 108 | 28 => 165 | 0 => 0 | 27 => 164 | 33 => 100 | 4 => 4 | n => n, fun | n => n⟩
def Tryz.sortedM_ren : Go.Shelf.Ren := ⟨fun | 6 => 121 | 8 => 157 | 9 => 158 | 11 => 176 | 13 => 162 | 12 => 177 | 23 => 187 | 24 => 188 | 14 => 206 | 15 => 207 | 16 => 208 | 17 => 209 | 18 => 210 | 19 => 211 | 20 => 212 | 21 => 213 | 22 => 214 | 25 => 226 | 26 => 216 | 27 => 217 | 28 => 227 | 29 => 228 | 30 => 229 | 31 => 233 | n => n, fun | 26 => 9 | 28 => 165 | 24 => 162 | 0 => 0 | 3 => 3 | 37 => 198 | 48 => 214 | 50 => 62 | 4 => 4 | 40 => 208 | 39 => 207 | 45 => 183 | 5 => 5 | 9 => 9 | 51 => 232 | 55 => 236 | 57 => 244 | 58 => 74 | 33 => 100 | n => n, fun | n => n⟩
theorem Tryz.sortedM : Go.Proofs.SlLaysZ.n6 Tryz.prog Tryz.sortedM_ren := {
 mixed := by kernel_rfl
 f6 := ⟨Tryz.f121.name, by decide, Tryz.func121.trans (congrArg some (by kernel_rfl))⟩
 f8 := ⟨Tryz.f157.name, by decide, Tryz.func157.trans (congrArg some (by kernel_rfl))⟩
 f11 := ⟨Tryz.f176.name, by decide, Tryz.func176.trans (congrArg some (by kernel_rfl))⟩
 t0 := Tryz.underlying0
 a0 := Tryz.isAgg0
 z0 := Tryz.sizeOf0
 v0 := Tryz.zeroValue0
 t24 := Tryz.underlying162
 a24 := Tryz.isAgg162
 z24 := Tryz.sizeOf162
 v24 := Tryz.zeroValue162
 t26 := Tryz.underlying9
 a26 := Tryz.isAgg9
 z26 := Tryz.sizeOf9
 v26 := Tryz.zeroValue9
 t28 := Tryz.underlying165
 a28 := Tryz.isAgg165
 z28 := Tryz.sizeOf165
 v28 := Tryz.zeroValue165
 i26 := by kernel_rfl }
def Tryz.sortM_ren : Go.Shelf.Ren := ⟨fun | 6 => 158 | 8 => 162 | 9 => 177 | 19 => 187 | 20 => 188 | 21 => 206 | 22 => 207 | 23 => 208 | 24 => 209 | 25 => 210 | 26 => 211 | 27 => 212 | 28 => 213 | 29 => 214 | 36 => 226 | 31 => 216 | 32 => 217 | 37 => 227 | 38 => 228 | 39 => 229 | 41 => 233 | n => n, fun | 27 => 162 | 29 => 9 | 3 => 3 | 32 => 198 | 26 => 162 | 0 => 0 | 44 => 214 | 46 => 62 | 4 => 4 | 36 => 208 | 35 => 207 | 41 => 183 | 5 => 5 | 9 => 9 | 53 => 232 | 57 => 236 | 63 => 244 | 64 => 74 | n => n, fun | n => n⟩
theorem Tryz.sortM : Go.Proofs.SlLaysM.n6 Tryz.prog Tryz.sortM_ren := {
 mixed := by kernel_rfl
 f6 := ⟨Tryz.f158.name, by decide, Tryz.func158.trans (congrArg some (by kernel_rfl))⟩
 f8 := Tryz.func162.trans (congrArg some (by kernel_rfl))
 f9 := ⟨Tryz.f177.name, by decide, Tryz.func177.trans (congrArg some (by kernel_rfl))⟩
 f19 := Tryz.func187.trans (congrArg some (by kernel_rfl))
 f20 := Tryz.func188.trans (congrArg some (by kernel_rfl))
 f21 := ⟨Tryz.f206.name, by decide, Tryz.func206.trans (congrArg some (by kernel_rfl))⟩
 f22 := ⟨Tryz.f207.name, by decide, Tryz.func207.trans (congrArg some (by kernel_rfl))⟩
 f23 := ⟨Tryz.f208.name, by decide, Tryz.func208.trans (congrArg some (by kernel_rfl))⟩
 f24 := ⟨Tryz.f209.name, by decide, Tryz.func209.trans (congrArg some (by kernel_rfl))⟩
 f25 := ⟨Tryz.f210.name, by decide, Tryz.func210.trans (congrArg some (by kernel_rfl))⟩
 f26 := ⟨Tryz.f211.name, by decide, Tryz.func211.trans (congrArg some (by kernel_rfl))⟩
 f27 := ⟨Tryz.f212.name, by decide, Tryz.func212.trans (congrArg some (by kernel_rfl))⟩
 f28 := ⟨Tryz.f213.name, by decide, Tryz.func213.trans (congrArg some (by kernel_rfl))⟩
 f29 := ⟨Tryz.f214.name, by decide, Tryz.func214.trans (congrArg some (by kernel_rfl))⟩
 f31 := Tryz.func216.trans (congrArg some (by kernel_rfl))
 f32 := Tryz.func217.trans (congrArg some (by kernel_rfl))
 f36 := ⟨Tryz.f226.name, by decide, Tryz.func226.trans (congrArg some (by kernel_rfl))⟩
 f37 := ⟨Tryz.f227.name, by decide, Tryz.func227.trans (congrArg some (by kernel_rfl))⟩
 f38 := ⟨Tryz.f228.name, by decide, Tryz.func228.trans (congrArg some (by kernel_rfl))⟩
 f39 := ⟨Tryz.f229.name, by decide, Tryz.func229.trans (congrArg some (by kernel_rfl))⟩
 f41 := ⟨Tryz.f233.name, by decide, Tryz.func233.trans (congrArg some (by kernel_rfl))⟩
 t0 := Tryz.underlying0
 a0 := Tryz.isAgg0
 z0 := Tryz.sizeOf0
 v0 := Tryz.zeroValue0
 t3 := Tryz.underlying3
 a3 := Tryz.isAgg3
 z3 := Tryz.sizeOf3
 v3 := Tryz.zeroValue3
 t4 := Tryz.underlying4
 a4 := Tryz.isAgg4
 z4 := Tryz.sizeOf4
 v4 := Tryz.zeroValue4
 t5 := Tryz.underlying5
 a5 := Tryz.isAgg5
 z5 := Tryz.sizeOf5
 v5 := Tryz.zeroValue5
 t9 := Tryz.underlying9
 a9 := Tryz.isAgg9
 z9 := Tryz.sizeOf9
 v9 := Tryz.zeroValue9
 t26 := Tryz.underlying162
 a26 := Tryz.isAgg162
 z26 := Tryz.sizeOf162
 v26 := Tryz.zeroValue162
 t27 := Tryz.underlying162
 a27 := Tryz.isAgg162
 z27 := Tryz.sizeOf162
 v27 := Tryz.zeroValue162
 t29 := Tryz.underlying9
 a29 := Tryz.isAgg9
 z29 := Tryz.sizeOf9
 v29 := Tryz.zeroValue9
 t32 := Tryz.underlying198
 a32 := Tryz.isAgg198
 z32 := Tryz.sizeOf198
 v32 := Tryz.zeroValue198
 t35 := Tryz.underlying207
 a35 := Tryz.isAgg207
 z35 := Tryz.sizeOf207
 v35 := Tryz.zeroValue207
 t36 := Tryz.underlying208
 a36 := Tryz.isAgg208
 z36 := Tryz.sizeOf208
 v36 := Tryz.zeroValue208
 t41 := Tryz.underlying183
 a41 := Tryz.isAgg183
 z41 := Tryz.sizeOf183
 v41 := Tryz.zeroValue183
 t44 := Tryz.underlying214
 a44 := Tryz.isAgg214
 z44 := Tryz.sizeOf214
 v44 := Tryz.zeroValue214
 t46 := Tryz.underlying62
 a46 := Tryz.isAgg62
 z46 := Tryz.sizeOf62
 v46 := Tryz.zeroValue62
 t53 := Tryz.underlying232
 a53 := Tryz.isAgg232
 z53 := Tryz.sizeOf232
 v53 := Tryz.zeroValue232
 t57 := Tryz.underlying236
 a57 := Tryz.isAgg236
 z57 := Tryz.sizeOf236
 v57 := Tryz.zeroValue236
 t63 := Tryz.underlying244
 a63 := Tryz.isAgg244
 z63 := Tryz.sizeOf244
 v63 := Tryz.zeroValue244
 t64 := Tryz.underlying74
 a64 := Tryz.isAgg74
 z64 := Tryz.sizeOf74
 v64 := Tryz.zeroValue74 }
end Go.Proofs
namespace Go.Proofs.YtmbkmpeongodbaaGreat
open Go.RowKit Go.Maps Go.Sort Go.Shelf

def GivesSs (w w' : World) (e : Ending) (T : List (List UInt8)) : Prop := ∃ v, e = .returned v ∧ w'.ownsRow w.heap.size 9 1 v T.length (T.map encStr) ∧ Below w.heap.size w w'
end Go.Proofs.YtmbkmpeongodbaaGreat
namespace Go.Proofs.YtmbkmpeongodbaaGreat
open Go.RowKit

def mP (P : Pst) : Nat → Int → Prop := fun r n => mem (runsAt P r) n
def mOr (M M' : Nat → Int → Prop) : Nat → Int → Prop := fun r n => M r n ∨ M' r n
def mAnd (M M' : Nat → Int → Prop) : Nat → Int → Prop := fun r n => M r n ∧ M' r n
def mNot (M M' : Nat → Int → Prop) : Nat → Int → Prop := fun r n => M r n ∧ ¬ M' r n
def IsP (M : Nat → Int → Prop) (P : Pst) : Prop := ∃ C, CanonOf C P ∧ ∀ r, r < 16 → ∀ n, mem (C r) n ↔ M r n
def Eqv (M M' : Nat → Int → Prop) : Prop := ∀ r, r < 16 → ∀ n, M r n ↔ M' r n
theorem IsP.len {M : Nat → Int → Prop} {P : Pst} (h : IsP M P) : P.cloud.length ≤ 8000000016 := by
 obtain ⟨C, hC, _⟩ := h
 exact (canon_len hC).1
def SzP (M : Nat → Int → Prop) (z : Int) : Prop := ∃ N, (∀ r, r < 16 → form 1 (N r) ∧ ∀ n, Go.Proofs.YtmbkmpeongodbaaGreat.mem (N r) n ↔ M r n) ∧ z = sumZ N 16
theorem SzP.none : SzP (fun _ _ => False) 0 := ⟨fun _ => [], fun _ _ => ⟨trivial, fun n => ⟨fun h => mem_nil n h, fun h => h.elim⟩⟩, by decide⟩
end Go.Proofs.YtmbkmpeongodbaaGreat
namespace Go.Proofs.YtmbkmpeongodbaaGreat
open Go.RowKit Go.Maps Go.Sort
def ofS (R : List Rc) (s : ByteArray) : List Pv := (R.filter (fun r => decide (r.s = s))).map (fun r => r.p)
def nilF : ByteArray := ⟨#[]⟩
def FoldM (R : List Rc) (s : ByteArray) (r : Nat) (n : Int) : Prop := (∃ x ∈ R, x.s = s ∧ mem (runsAt x.p.P r) n) ∧ (s ≠ nilF → ¬ ∃ x ∈ R, x.s = nilF ∧ mem (runsAt x.p.P r) n)
def FoldOf (R F : List Rc) : Prop := F.Pairwise (fun a b => cmpS a.s b.s < 0) ∧ (∀ x ∈ F, (∃ r ∈ R, r.s = x.s) ∧ IsP (FoldM R x.s) x.p.P ∧ ¬ EmptyP x.p.P) ∧ ∀ s, (∃ r ∈ R, r.s = s) → (∀ x ∈ F, x.s ≠ s) → ∀ r, r < 16 → ∀ n, ¬ FoldM R s r n
def FPre (R : List Rc) (T : List (List UInt8)) (F : List Rc) : Prop := (F.map (fun x => x.s.data.toList)).Sublist T ∧ (∀ x ∈ F, IsP (FoldM R x.s) x.p.P ∧ ¬ EmptyP x.p.P) ∧ ∀ t ∈ T, (∀ x ∈ F, x.s ≠ ⟨t.toArray⟩) → ∀ r, r < 16 → ∀ n, ¬ FoldM R ⟨t.toArray⟩ r n
theorem FPre.add {R F : List Rc} {T : List (List UInt8)} (h : FPre R T F) (t : List UInt8) (x : Rc) (hx : x.s = ⟨t.toArray⟩) (hI : IsP (FoldM R x.s) x.p.P) (hE : ¬ EmptyP x.p.P) : FPre R (T ++ [t]) (F ++ [x]) := by
 refine ⟨?_, fun y hy => ?_, fun u hu hn => ?_⟩
 ·rw [List.map_append]
  refine h.1.append ?_
  simp [hx]
 ·rcases List.mem_append.1 hy with hy | hy
  ·exact h.2.1 y hy
  ·obtain rfl : y = x := by simpa using hy
   exact ⟨hI, hE⟩
 ·rcases List.mem_append.1 hu with hu | hu
  ·exact h.2.2 u hu (fun y hy => hn y (List.mem_append_left _ hy))
  ·obtain rfl : u = t := by simpa using hu
   exact absurd hx (hn x (by simp))
end Go.Proofs.YtmbkmpeongodbaaGreat

