/- LRis LSor LSo2 LShg LCct LUp LUn LSp BBx SQl SLt PLs GFc EFp QLb -/
import Derived.Test.YtmbkmpeongodbaaGreatAm26
import Derived.Shelf.SlSortCmp.NoneTotal
import Derived.Lib.SliceRun
import Derived.Shelf.Spec.SlicesGrow
import Derived.Test.YtmbkmpeongodbaaGreatProg
import Derived.Laws.AppendOwnNone
import Derived.Deep.LoopGhost
import Derived.Test.YtmbkmpeongodbaaGreatAm16
import Derived.Test.YtmbkmpeongodbaaGreatAm19
import Derived.Test.YtmbkmpeongodbaaGreatAm21
import Derived.Test.YtmbkmpeongodbaaGreatAm22
import Derived.Test.YtmbkmpeongodbaaGreatAm25
import Derived.Test.YtmbkmpeongodbaaGreatAm05
import Derived.Test.YtmbkmpeongodbaaGreatAm09
namespace Go.Proofs.YtmbkmpeongodbaaGreat.K
open Go.RowKit Go.Lib
attribute [local go_sem ↓] ld28_eq st28_eq ld26_eq run_eqD
attribute [local go_sem] zero_EC cells_EV EC_size
def GivesTB (B : Nat) (w w' : World) (e : Ending) (L : List En) : Prop := ∃ ao n c R er, e = .returned (.tuple #[.slice ao n c, .int .i64 er]) ∧ ESrc w' ao n c R ∧ Below B w w' ∧ (∀ ad, ao = some ad → B ≤ ad.block) ∧ Settled L R er
end Go.Proofs.YtmbkmpeongodbaaGreat.K
namespace Go.Proofs.YtmbkmpeongodbaaGreat.K
open Go.RowKit Go.Lib
attribute [local go_sem ↓] ld28_eq st28_eq
attribute [local go_sem] zero_EC cells_EV EC_size
def firstE : List En → Int
 | [] => 0
 | e :: r => if ceE e = 0 then firstE r else ceE e
def okTo (L : List En) (k : Nat) : Prop := ∀ i, i < k → ceE (L.getD i en0) = 0
def Sorted (L R : List En) (er : Int) : Prop := (firstE L ≠ 0 ∧ R = [] ∧ er = firstE L) ∨ (firstE L = 0 ∧ Settled L R er)
def GivesQ (w w' : World) (e : Ending) (L : List En) : Prop := ∃ ao n c R er, e = .returned (.tuple #[.slice ao n c, .int .i64 er]) ∧ ESrc w' ao n c R ∧ Below w.heap.size w w' ∧ (∀ ad, ao = some ad → w.heap.size ≤ ad.block) ∧ Sorted L R er
theorem ESrc.cells {w : World} {ad : Addr} {n cap : Nat} {L : List En} (hS : ESrc w (some ad) n cap L) (j : Nat) (u : Value) (hj : (ecs L)[j]? = some u) : w.cell? (ad.add j) = some u := by
 have hjl : j < L.length * 4 := by have := (List.getElem?_eq_some_iff.1 hj).1; rwa [ecs_length] at this
 have e4 := ecs_at L (j / 4) (j % 4) (by omega) (by omega)
 rw [show j / 4 * 4 + j % 4 = j by omega, hj] at e4
 have A := hS.2.2.1 ad rfl (j / 4) (by rw [← hS.1]; omega)
 have : j % 4 = 0 ∨ j % 4 = 1 ∨ j % 4 = 2 ∨ j % 4 = 3 := by omega
 rcases this with h | h | h | h
 ·rw [h] at e4; rw [show j = j / 4 * 4 by omega, A.c0]; exact e4.symm
 ·rw [h] at e4; have := A.c1; rw [add_add] at this; rw [show j = j / 4 * 4 + 1 by omega, this]; exact e4.symm
 ·rw [h] at e4; have := A.c2; rw [add_add] at this; rw [show j = j / 4 * 4 + 2 by omega, this]; exact e4.symm
 ·rw [h] at e4; have := A.c3; rw [add_add] at this; rw [show j = j / 4 * 4 + 3 by omega, this]; exact e4.symm
end Go.Proofs.YtmbkmpeongodbaaGreat.K
namespace Go.Proofs.YtmbkmpeongodbaaGreat.K
open Go.RowKit Go.Lib
attribute [local go_sem ↓] ld28_eq st28_eq
attribute [local go_sem] zero_EC cells_EV EC_size
end Go.Proofs.YtmbkmpeongodbaaGreat.K
namespace Go.Proofs
open Go.Shelf
def Tryz.growEn_ren : Go.Shelf.Ren := ⟨fun | 4 => 132 | n => n, fun | 22 => 22 | 25 => 46 | 3 => 3 | 4 => 4 | 9 => 9 | 20 => 20 | 0 => 0 | n => n, fun | n => n⟩
end Go.Proofs
namespace Go.Proofs.YtmbkmpeongodbaaGreat.K
open Go.RowKit Go.Lib

end Go.Proofs.YtmbkmpeongodbaaGreat.K
namespace Go.Proofs.YtmbkmpeongodbaaGreat.K
open Go.RowKit

def code (e : En) : Int := e.rep * 1000000000 + e.num
theorem code_lt {x y : En} (hx : ceE x = 0) (hy : ceE y = 0) (h : ahead x y = true) : code x < code y := by
 have bx : ∀ z : En, ceE z = 0 → (0 ≤ z.rep ∧ z.rep < 16) ∧ 1 ≤ z.num ∧ z.num ≤ 1000000000 := by
  intro z hz
  unfold ceE at hz
  by_cases h1 : isR z.rep = false
  ·rw [if_pos h1] at hz; omega
  ·rw [if_neg h1] at hz
   by_cases h2 : z.num < 1 ∨ 1000000000 < z.num
   ·rw [if_pos h2] at hz; omega
   ·have h1' : isR z.rep = true := by simpa using h1
    unfold isR at h1'
    simp at h1'
    exact ⟨h1', by omega, by omega⟩
 have b1 := bx x hx
 have b2 := bx y hy
 simp [ahead] at h
 unfold code
 omega
theorem code_bd {z : En} (hz : ceE z = 0) : 1 ≤ code z ∧ code z ≤ 16000000000 := by
 unfold ceE at hz
 by_cases h1 : isR z.rep = false
 ·rw [if_pos h1] at hz; omega
 ·rw [if_neg h1] at hz
  by_cases h2 : z.num < 1 ∨ 1000000000 < z.num
  ·rw [if_pos h2] at hz; omega
  ·have h1' : isR z.rep = true := by simpa using h1
   unfold isR at h1'
   simp at h1'
   unfold code
   omega
theorem okN_at (L : List En) (n : Nat) (h : okN L n = true) (k : Nat) (hk : k < n) : okAt L k = true := by
 unfold okN at h
 exact List.all_eq_true.1 h k (List.mem_range.2 hk)
theorem chk_zero {L : List En} (h : chk L = 0) : okN L L.length = true := by
 unfold chk at h
 by_cases e : okN L L.length = true
 ·exact e
 ·rw [if_neg e] at h; omega
theorem chk_len {L : List En} (h : chk L = 0) : L.length ≤ 16000000000 := by
 have ho := chk_zero h
 have key : ∀ k, k < L.length → ((k : Nat) : Int) + 1 ≤ code (L.getD k en0) := by
  intro k
  induction k with
  | zero =>
   intro hk
   have := okN_at L _ ho 0 hk
   simp [okAt] at this
   have := code_bd this
   simpa using this.1
  | succ k ih =>
   intro hk
   have h1 := okN_at L _ ho (k + 1) hk
   have h0 := okN_at L _ ho k (by omega)
   simp only [okAt, Bool.and_eq_true, beq_iff_eq, Bool.or_eq_true, decide_eq_true_eq, Nat.add_sub_cancel] at h0 h1
   have ha : ahead (L.getD k en0) (L.getD (k + 1) en0) = true := by
    rcases h1.2 with e | e
    ·omega
    ·exact e
   have := code_lt h0.1 h1.1 ha
   have := ih (by omega)
   omega
 rcases Nat.eq_zero_or_pos L.length with h0 | h0
 ·omega
 ·have h1 := key (L.length - 1) (by omega)
  have h2 := okN_at L _ ho (L.length - 1) (by omega)
  simp only [okAt, Bool.and_eq_true, beq_iff_eq] at h2
  have := (code_bd h2.1).2
  omega
end Go.Proofs.YtmbkmpeongodbaaGreat.K
namespace Go.Proofs.YtmbkmpeongodbaaGreat.K
open Go.RowKit Go.Lib
attribute [local go_sem ↓] ld28_eq st28_eq
attribute [local go_sem] zero_EC cells_EV EC_size fold_EC
def UnionOf (A B R : List En) (er : Int) : Prop := (¬ (chk A = 0 ∧ chk B = 0) ∧ R = [] ∧ er = 1) ∨ ((chk A = 0 ∧ chk B = 0) ∧ Settled (A ++ B) R er)
def GivesU (w w' : World) (e : Ending) (A B : List En) : Prop := ∃ ao n c R er, e = .returned (.tuple #[.slice ao n c, .int .i64 er]) ∧ ESrc w' ao n c R ∧ Below w.heap.size w w' ∧ UnionOf A B R er
end Go.Proofs.YtmbkmpeongodbaaGreat.K
namespace Go.Proofs.YtmbkmpeongodbaaGreat.K
open Go.RowKit

theorem chk_asc {R : List En} (ha : Asc R) (hc : ∀ e ∈ R, ceE e = 0) : chk R = 0 := by
 have key : okN R R.length = true := by
  unfold okN
  rw [List.all_eq_true]
  intro k hk
  have hk' := List.mem_range.1 hk
  unfold okAt
  rw [Bool.and_eq_true]
  refine ⟨?_, ?_⟩
  ·rw [beq_iff_eq]; exact hc _ (getD_mem R k hk')
  ·cases k with
   | zero => rfl
   | succ j =>
    have h := List.pairwise_iff_getElem.1 ha j (j + 1) (by omega) hk' (by omega)
    have e1 : R.getD j en0 = R[j] := by simp [List.getD, show j < R.length by omega]
    have e2 : R.getD (j + 1) en0 = R[j + 1] := by simp [List.getD, hk']
    simp only [Nat.add_sub_cancel, e1, e2, h, Bool.or_true]
 unfold chk; rw [if_pos key]
theorem chk_asc' {R : List En} (h : chk R = 0) : Asc R := by
 refine asc_of_adj R (fun i hi => ?_)
 have := okN_at R _ (chk_zero h) (i + 1) hi
 unfold okAt at this
 rw [Bool.and_eq_true] at this
 simpa using this.2
end Go.Proofs.YtmbkmpeongodbaaGreat.K
namespace Go.Proofs.YtmbkmpeongodbaaGreat
open Go.RowKit
theorem chk_ce {L : List K.En} (h : K.chk L = 0) : ∀ e ∈ L, K.ceE e = 0 := fun e he => by
 obtain ⟨k, hk, rfl⟩ := List.getElem_of_mem he
 have h1 := K.okN_at L _ (K.chk_zero h) k hk
 unfold K.okAt at h1
 rw [Bool.and_eq_true] at h1
 have e1 : L.getD k K.en0 = L[k] := by simp [List.getD, List.getElem?_eq_getElem hk]
 rw [e1] at h1
 simpa using h1.1
theorem ce_dot {e : K.En} (h : K.ceE e = 0) : okD (dotOf e) = true := by
 unfold K.ceE at h
 by_cases h1 : K.isR e.rep = false
 ·rw [if_pos h1] at h; cases h
 ·rw [if_neg h1] at h
  by_cases h2 : e.num < 1 ∨ 1000000000 < e.num
  ·rw [if_pos h2] at h; cases h
  ·have h3 : K.isR e.rep = true := by simpa using h1
   unfold okD dotOf V.isR
   unfold K.isR at h3
   simp only [Bool.and_eq_true, decide_eq_true_eq] at h3 ⊢
   exact ⟨h3, by omega, by omega⟩
def BX (L : List K.En) (F : List Rc) (X : List Pv) : Prop := (∀ r : Nat, r < 16 → ∀ m, (∃ p ∈ X, mem (runsAt p.P r) m) ↔ ∃ f ∈ F, mem (dotsG (dotsS L f.s) r) m ∧ mem (runsAt f.p.P r) m) ∧ wt X ≤ F.length * (L.length + 1)
theorem BX.nil (L : List K.En) : BX L [] [] := ⟨fun r _ m => by simp, Nat.zero_le _⟩
end Go.Proofs.YtmbkmpeongodbaaGreat
namespace Go.Proofs.YtmbkmpeongodbaaGreat

def Least (P : Int → Prop) (k : Int) : Prop := (k = 0 ∧ ∀ n, ¬ P n) ∨ (1 ≤ k ∧ P k ∧ ∀ n, P n → k ≤ n)
def Most (A : List Rn) (k : Int) : Prop := (k = 0 ∧ ∀ n, ¬ mem A n) ∨ (mem A k ∧ ∀ n, mem A n → n ≤ k)
theorem Most.unique {A : List Rn} {k l : Int} (h : Most A k) (h' : Most A l) : k = l := by
 rcases h with ⟨e, h⟩ | ⟨h2, h3⟩ <;> rcases h' with ⟨e', h'⟩ | ⟨h2', h3'⟩
 ·rw [e, e']
 ·exact absurd h2' (h _)
 ·exact absurd h2 (h' _)
 ·have := h3 _ h2'; have := h3' _ h2; omega
theorem Most.congr {A B : List Rn} {k : Int} (h : Most A k) (e : ∀ n, mem A n ↔ mem B n) : Most B k := by
 rcases h with ⟨a, h⟩ | ⟨h2, h3⟩
 ·exact Or.inl ⟨a, fun n hn => h n ((e n).2 hn)⟩
 ·exact Or.inr ⟨(e _).1 h2, fun n hn => h3 n ((e n).2 hn)⟩
theorem Most.bd {A : List Rn} {k : Int} (h : Most A k) : 0 ≤ k ∧ k ≤ 1000000000 := by
 rcases h with ⟨a, _⟩ | ⟨h2, _⟩
 ·omega
 ·exact ⟨by have := h2.1; omega, h2.2.1⟩
theorem Most.start : Most [] 0 := Or.inl ⟨rfl, mem_nil⟩
theorem Most.last {i : List Rn} {r : Rn} (h : form 1 (i ++ [r])) : Most (i ++ [r]) r.hi := by
 have hl := form_last h
 refine Or.inr ⟨(mem_append _ _ _).2 (Or.inr ((mem_one _ _).2 (by omega))), fun n hn => ?_⟩
 rcases (mem_append _ _ _).1 hn with e | e
 ·have : ∀ (i : List Rn) (l : Int), form l (i ++ [r]) → mem i n → n ≤ r.hi := by
   intro i
   induction i with
   | nil => intro l _ hm; exact absurd hm (mem_nil n)
   | cons s i ih =>
    intro l hf hm
    rcases (mem_cons _ _ _).1 hm with g | g
    ·have := form_last hf.2.2.2; omega
    ·exact ih _ hf.2.2.2 g
  exact this i 1 h e
 ·exact ((mem_one _ _).1 e).2.2.2
theorem form_take {a : List Rn} : ∀ {l : Int} (k : Nat), form l a → form l (a.take k) := by
 induction a with
 | nil => intro l k _; simp [form]
 | cons r a ih =>
  intro l k h
  cases k with
  | zero => trivial
  | succ k => exact ⟨h.1, h.2.1, h.2.2.1, ih k h.2.2.2⟩
def GapP (A : List Rn) (f : Int) (n : Int) : Prop := 1 ≤ n ∧ n ≤ 1000000000 ∧ ¬ mem A n ∧ f ≤ n
end Go.Proofs.YtmbkmpeongodbaaGreat
namespace Go.Proofs.YtmbkmpeongodbaaGreat
open Go.RowKit
attribute [local go_sem ↓] ldR_eq stR_eq
attribute [local go_sem] zero_RC cells_RV RC_size fold_RC
theorem take_snoc (L : List Rn) (k : Nat) (h : k < L.length) : L.take (k + 1) = L.take k ++ [L.getD k rn0] := by
 rw [List.take_succ_eq_append_getElem h]; simp [List.getD, h]
set_option maxRecDepth 100000 in
set_option maxHeartbeats 4000000 in
theorem last_any (ao : Option Addr) (n cap : Nat) (A : List Rn) (w : World) (hS : RSrc w ao n cap A) :
  Calls Tryz.prog 118 #[.slice ao n cap] w fun e w' => ∃ k, e = .returned (.int .i64 k) ∧ Most A k ∧ Below w.heap.size w w' := by
 have HS := hide hS
 clear hS
 go_enter Tryz.func118, Tryz.ntmps118
 go_wp2_with fail
 refine (norm_any ao n cap A _ HS.out).mono ?_
 rintro e w1 ⟨a1, n1, c1, X, rfl, S1, b1, p1⟩
 have HS1 := hide S1
 have HP1 := hide p1
 have HB1 := hide b1
 have HL : Hid (X.length = n1) := S1.len
 have hn := S1.big
 clear S1 b1 p1
 go_wp2_with fail
 go_loopw [3, 9] (fun v i wr => ∃ (k : Nat) (z : Int), k ≤ n1 ∧ v = .int .i64 z ∧ i = .int .i64 k ∧ Hid (Most (X.take k) z ∧ Below w1.heap.size w1 wr)) (fun _ i _ => n1 - (intOf i).toNat)
 case atStart => exact ⟨0, 0, Nat.zero_le _, rfl, rfl, Most.start, Below.refl _ _⟩
 case round =>
  obtain ⟨k, z, hk, rfl, rfl, H⟩ := hrel
  rename World => w4
  by_cases hlt : k < n1
  ·obtain ⟨ad, rfl, A0⟩ := (HS1.out.below H.out.2).at k hlt
   have hld := run_ldR A0
   obtain ⟨r, Hr⟩ : ∃ r, Hid (X.getD k rn0 = r) := ⟨_, rfl⟩
   rw [Hr.out] at hld
   have HT := hide (take_snoc X k (by rw [HL.out]; exact hlt))
   rw [Hr.out] at HT
   have HM : Hid (Most (X.take (k + 1)) r.hi) := by
    have := form_take (k + 1) HP1.out.1
    rw [HT.out] at this
    rw [HT.out]; exact Most.last this
   obtain ⟨w5, hst, X5, B5, Z5⟩ := made w4 r w4.heap.size rfl
   have HB5 := hide (H.out.2.trans (B5.mono H.out.2.size))
   have k1 : w5.cell? ⟨w4.heap.size, 1, none⟩ = some (.int .i64 r.hi) := X5.at.c1
   clear A0 X5 B5 Z5
   go_wp2_with fail
   go_roundw
   case rel => exact ⟨k + 1, r.hi, by omega, rfl, by go_num, HM.out, HB5.out⟩
   case measure => simp [intOf]; omega
  ·obtain rfl : k = n1 := by omega
   have HF : Hid (Most A z) := by
    have := H.out.1
    rw [List.take_of_length_le (by rw [HL.out]; exact Nat.le_refl _)] at this
    exact this.congr HP1.out.2
   have HBF := hide (HB1.out.trans (H.out.2.mono HB1.out.size))
   go_wp2_with fail
   go_ret
   exact ⟨_, rfl, HF.out, HBF.out⟩
end Go.Proofs.YtmbkmpeongodbaaGreat
namespace Go.Proofs.YtmbkmpeongodbaaGreat
open Go.RowKit
attribute [local go_sem ↓] ldP_eq stP_eq ldA_eq stA_eq ixA_eq
attribute [local go_sem] zeros_SA cells_SAv zero_PC cells_PV fold_PC PC_size fold_PC1
def LastOf (P : Pst) (r : Int) (k : Int) : Prop := (V.isR r = true ∧ Most (runsAt P r.toNat) k) ∨ (V.isR r = false ∧ k = 0)
theorem LastOf.unique {P : Pst} {r k l : Int} (h : LastOf P r k) (h' : LastOf P r l) : k = l := by
 rcases h with ⟨h1, h2⟩ | ⟨h1, h2⟩ <;> rcases h' with ⟨g1, g2⟩ | ⟨g1, g2⟩
 ·exact h2.unique g2
 ·rw [h1] at g1; cases g1
 ·rw [h1] at g1; cases g1
 ·rw [h2, g2]
def GivesZ (w w' : World) (e : Ending) (P : Int → Prop) : Prop := ∃ k, e = .returned (.int .i64 k) ∧ P k ∧ Below w.heap.size w w'
set_option maxRecDepth 100000 in
theorem pastLast_any (a : Pv) (r : Int) (w : World) (hS : PSrc w a) : Calls Tryz.prog 82 #[PV a, .int .i64 r] w fun e w' => GivesZ w w' e (LastOf a.P r) := by
 have b1 := below_new w (.cells (PC a) 26)
 have HX := hide (pbox_new w a)
 have HBK := hide b1
 have HS := hide (hS.below b1)
 have l0 := run_ldP HX.out.at
 clear hS b1
 obtain ⟨wk, hwk⟩ : ∃ wk, w.alloc (.cells (PC a) 26) = wk := ⟨_, rfl⟩
 rw [hwk] at HBK HX HS l0
 obtain ⟨x, Hx⟩ : ∃ x, Hid (V.isR r = x) := ⟨_, rfl⟩
 cases x with
 | false =>
  have HF : Hid (LastOf a.P r 0) := Or.inr ⟨Hx.out, rfl⟩
  go_enter Tryz.func82, Tryz.ntmps82
  go_wp2_with (go_at_call 79; refine (isRepP_any r _).mono ?_; rintro e w' ⟨rfl, rfl⟩; rw [Hx.out])
  go_ret
  exact ⟨0, rfl, HF.out, HBK.out⟩
 | true =>
  have hr : 0 ≤ r ∧ r < 16 := by have := Hx.out; simp [V.isR] at this; exact this
  obtain ⟨k, rfl⟩ : ∃ k : Nat, r = k := ⟨r.toNat, by omega⟩
  have hk : k < 16 := by omega
  have b2 := below_new wk (.cells (PC a) 26)
  have HR := hide (prow_one wk a HS.out)
  have HWT := hide (wt_one HS.out)
  have HB2 := hide (HBK.out.trans (b2.mono HBK.out.size))
  clear b2
  go_enter Tryz.func82, Tryz.ntmps82
  go_wp2_with (go_at_call 79; refine (isRepP_any _ _).mono ?_; rintro e w' ⟨rfl, rfl⟩; rw [Hx.out])
  clear hwk
  refine (setsOf_any _ 1 1 [a] _ HR.out HWT.out (by omega)).mono ?_
  rintro e w2 ⟨F, rfl, R2, b3⟩
  have HR2 := hide R2
  have HB3 := hide (HB2.out.trans (b3.mono HB2.out.size))
  have hix : (ixA (SAv F) (.int .i64 (k : Int))).run Tryz.prog w2 = _ := run_idxA F k hk w2
  clear R2 b3 l0
  go_wp2_with fail
  refine (last_any _ _ _ _ _ (HR2.out.src k hk)).mono ?_
  rintro e w3 ⟨z, rfl, hz, b4⟩
  have HZ : Hid (LastOf a.P k z) := by
   left
   refine ⟨Hx.out, ?_⟩
   rw [Int.toNat_natCast, ← runsOf_one a k, ← HR2.out.eq k hk]
   exact hz
  have HB4 := hide (HB3.out.trans (b4.mono HB3.out.size))
  clear hz b4 hix
  go_wp2_with fail
  go_ret
  exact ⟨z, rfl, HZ.out, HB4.out⟩
end Go.Proofs.YtmbkmpeongodbaaGreat
namespace Go.Proofs.YtmbkmpeongodbaaGreat
open Go.RowKit
attribute [local go_sem ↓] ldP_eq stP_eq ldFa_eq stFa_eq ldD_eq stD_eq
attribute [local go_sem] cells_PV PC_size cells_FaV FaC_size cells_RV RC_size zero_RC fold_RC
structure Fc where
 ao : Option Addr
 an : Nat
 ac : Nat
 es : List K.En
 p : Pv
 ro : Option Addr
 rn : Nat
 rc : Nat
 rs : List Rc
def mkF (f : Fc) : FacV := ⟨f.ao, f.an, f.ac, f.p.vo, f.p.vn, f.p.vc, f.p.co, f.p.cn, f.p.cc, f.ro, f.rn, f.rc⟩
structure FcOk (w : World) (f : Fc) : Prop where
 es : K.ESrc w f.ao f.an f.ac f.es
 p : PSrc w f.p
 rs : RcS w f.ro f.rn f.rc f.rs
theorem FcOk.below {w w' : World} {f : Fc} (h : FcOk w f) (hb : Below w.heap.size w w') : FcOk w' f := ⟨h.es.below hb, h.p.below hb, h.rs.below hb⟩
theorem FaBox.cs {w : World} {g : Nat} {f : Fc} (h : FaBox w g (mkF f)) : w.cell? ⟨g, 0, none⟩ = some (.slice f.ao f.an f.ac) ∧ w.cell? ⟨g, 3, none⟩ = some (.slice f.ro f.rn f.rc) := ⟨h.c0, h.c3⟩
theorem FaBox.past {w : World} {g : Nat} {f : Fc} (h : FaBox w g (mkF f)) : PAt w ⟨g, 1, none⟩ f.p := ⟨h.c1, h.c2⟩
def FormF (f : Fc) : Prop := K.okN f.es f.an = true ∧ InForm f.p.P ∧ OkR f.rs f.rn
def OneA (f : Fc) : Prop := (f.an = 0 ∧ f.rn = 0) ∨ (f.an = 1 ∧ f.rn = 0 ∧ ∃ k, LastOf f.p.P (f.es.getD 0 K.en0).rep k ∧ k < (f.es.getD 0 K.en0).num) ∨ (f.an = 0 ∧ f.rn = 1 ∧ EmptyP f.p.P)
def EvOf (f : Fc) (x : Int) : Prop := (¬ FormF f ∧ x = 1) ∨ (FormF f ∧ ¬ OneA f ∧ x = 2) ∨ (FormF f ∧ OneA f ∧ x = 0)
theorem EvOf.unique {f : Fc} {x y : Int} (h : EvOf f x) (h' : EvOf f y) : x = y := by
 rcases h with ⟨h1, rfl⟩ | ⟨h1, h2, rfl⟩ | ⟨h1, h2, rfl⟩ <;> rcases h' with ⟨g1, rfl⟩ | ⟨g1, g2, rfl⟩ | ⟨g1, g2, rfl⟩ <;> first | rfl | exact absurd h1 g1 | exact absurd g1 h1 | exact absurd h2 g2 | exact absurd g2 h2
def NoneF (f : Fc) : Prop := f.an = 0 ∧ f.rn = 0 ∧ EmptyP f.p.P
end Go.Proofs.YtmbkmpeongodbaaGreat
namespace Go.Proofs.YtmbkmpeongodbaaGreat
open Go.RowKit
def EfK (L : List K.En) (f : Fc) (x : K.En) : Prop := (x ∈ L ∧ inB f.p.P x = false ∧ freeB f.rs x = true) ∨ x ∈ f.es
def EfC (L : List K.En) (f : Fc) : Prop := ∃ a ∈ f.es, ∃ y ∈ L, K.sameDot y a = true
def EfD (L : List K.En) (f : Fc) (Z : List K.En) (er : Int) : Prop := (¬ K.chk L = 0 ∧ Z = [] ∧ er = 1) ∨ (K.chk L = 0 ∧ EvOf f er ∧ er ≠ 0 ∧ Z = []) ∨ (K.chk L = 0 ∧ EvOf f 0 ∧ EfC L f ∧ Z = [] ∧ er = 10) ∨ (K.chk L = 0 ∧ EvOf f 0 ∧ ¬ EfC L f ∧ er = 0 ∧ K.Asc Z ∧ ∀ x, x ∈ Z ↔ EfK L f x)
def EfA (w w' : World) (x : Ending) (L : List K.En) (f : Fc) : Prop := ∃ a n c Z er, x = .returned (.tuple #[.slice a n c, .int .i64 er]) ∧ K.ESrc w' a n c Z ∧ Below w.heap.size w w' ∧ EfD L f Z er
theorem ev_form {f : Fc} (h : EvOf f 0) : FormF f ∧ OneA f := by
 rcases h with ⟨-, h⟩ | ⟨-, -, h⟩ | ⟨h1, h2, -⟩
 ·exact absurd h (by decide)
 ·exact absurd h (by decide)
 ·exact ⟨h1, h2⟩
theorem chk_of {L : List K.En} {n : Nat} (hl : L.length = n) (h : K.okN L n = true) : K.chk L = 0 := (ok_chk hl).2 h
theorem filter_chkE {L : List K.En} {p : K.En → Bool} (h : K.chk L = 0) : K.chk (L.filter p) = 0 :=
 K.chk_asc ((K.chk_asc' h).filter p) (fun e he => chk_ce h e (List.mem_filter.1 he).1)
end Go.Proofs.YtmbkmpeongodbaaGreat
namespace Go.Proofs.YtmbkmpeongodbaaGreat
open Go.RowKit
attribute [local go_sem ↓] ldP_eq stP_eq ldJ_eq stJ_eq
attribute [local go_sem] zeros_JA cells_JAv zero_PC cells_PV fold_PC PC_size fold_PC1
theorem tn_most {G N : List Rn} (h : NormOf G N) : (N = [] ∧ Most G 0) ∨ (N ≠ [] ∧ ∃ t, (tn N).length = t + 2 ∧ Most G ((tn N).getD (t + 1) 0 - 1)) := by
 rcases List.eq_nil_or_concat N with e | ⟨i, r, e⟩
 ·subst e
  exact Or.inl ⟨rfl, (Most.start).congr h.2⟩
 ·rw [List.concat_eq_append] at e
  subst e
  refine Or.inr ⟨by simp, 2 * i.length, by rw [tn_length]; simp; omega, ?_⟩
  have e2 : (tn (i ++ [r])).getD (2 * i.length + 1) 0 = r.hi + 1 := by
   rw [tn_snoc, ← tn_length]
   simp [List.getD]
  rw [e2, Int.add_sub_cancel]
  exact (Most.last h.1).congr h.2
set_option maxRecDepth 100000 in
set_option maxHeartbeats 400000 in
theorem refLast_any (a : Pv) (r : Int) (w : World) (hS : PSrc w a) : Calls Tryz.prog 56 #[PV a, .int .i64 r] w fun e w' => GivesZ w w' e (LastOf a.P r) := by
 have b1 := below_new w (.cells (PC a) 26)
 have HX := hide (pbox_new w a)
 have HBK := hide b1
 have HS := hide (hS.below b1)
 have l0 := run_ldP HX.out.at
 clear hS b1
 obtain ⟨wk, hwk⟩ : ∃ wk, w.alloc (.cells (PC a) 26) = wk := ⟨_, rfl⟩
 rw [hwk] at HBK HX HS l0
 by_cases hr0 : 0 ≤ r
 ·by_cases hr1 : r < 16
  ·obtain ⟨y, rfl⟩ : ∃ y : Nat, r = y := ⟨r.toNat, by omega⟩
   have hy : y < 16 := by omega
   have hrr : ¬ (y : Int) < 0 := by omega
   have hrq : ¬ (16 : Int) ≤ (y : Int) := by omega
   have HY : Hid (V.isR (y : Int) = true) := by show _ = _; simp [V.isR]; omega
   go_enter Tryz.func56, Tryz.ntmps56
   go_wp2_with fail
   clear hwk
   refine (one_any a _ HS.out).mono ?_
   rintro e w2 ⟨T, N, rfl, hT, b2⟩
   obtain ⟨h1, h2, h3⟩ := hT y hy
   have b3 := below_new w2 (.cells (JA fun _ => si0) 105)
   have X3 := isets_new w2 105 (fun _ => si0)
   have hst := run_stJ (F' := T) X3
   have X4 := ISets.setRow (F' := T) X3
   have b4 := below_setRow (cs := JA T) b3 (Nat.le_refl _)
   have HS4 := hide (h1.below b4)
   have HB4 := hide ((HBK.out.trans (b2.mono HBK.out.size)).trans (b4.mono (Nat.le_trans HBK.out.size b2.size)))
   have HN3 := hide h3
   have c4 := X4.cell y hy
   obtain ⟨ta, tt, tc, hf⟩ : ∃ ta tt tc, (T y).ao = ta ∧ (T y).n = tt ∧ (T y).cap = tc := ⟨_, _, _, rfl, rfl, rfl⟩
   rw [hf.1, hf.2.1, hf.2.2] at HS4 c4
   have y0 : (0 : Int) ≤ (y : Int) := by omega
   have y1 : (y : Int) < 16 := by omega
   clear h1 h2 h3 hT b2 b3 b4 X3 X4 l0 hf
   have htl := HS4.out.1
   rcases tn_most HN3.out with ⟨e0, hm⟩ | ⟨e0, t, ht, hm⟩
   ·rw [e0] at htl
    obtain rfl : tt = 0 := htl.symm
    have HF : Hid (LastOf a.P y 0) := Or.inl ⟨HY.out, hm⟩
    clear hm e0 htl
    go_wp2_with fail
    go_ret
    exact ⟨0, rfl, HF.out, HB4.out⟩
   ·have htb : tt ≤ 1000000002 := by have h1 := form_small (Int.le_refl _) HN3.out.1; have h2 := tn_length (N y); omega
    obtain ⟨u, hu⟩ : ∃ u, u = t + 1 := ⟨_, rfl⟩
    rw [← hu] at hm
    obtain ⟨ad, had, cz⟩ := isrc_at HS4.out u (by omega)
    subst had
    have hzb := hm.bd
    obtain ⟨z, Hz⟩ : ∃ z, Hid ((tn (N y)).getD u 0 = z) := ⟨_, rfl⟩
    rw [Hz.out] at cz hm hzb
    have HF : Hid (LastOf a.P y (z - 1)) := Or.inl ⟨HY.out, hm⟩
    have ew : IntKind.i64.wrap ((tt : Int) - 1) = (u : Int) := by rw [IntKind.wrap_i64]; omega
    have ez : IntKind.i64.wrap (z - 1) = z - 1 := by rw [IntKind.wrap_i64]; omega
    have hn0 : ¬ (tt : Int) = 0 := by omega
    have hut : (u : Int) < (tt : Int) := by omega
    clear hm e0 ht htl hu t
    go_wp2_with fail
    go_ret
    exact ⟨z - 1, by first | rfl | rw [ez], HF.out, HB4.out⟩
  ·have HF : Hid (LastOf a.P r 0) := Or.inr ⟨by simp [V.isR]; omega, rfl⟩
   have hrr : ¬ r < 0 := by omega
   have hrq : (16 : Int) ≤ r := by omega
   go_enter Tryz.func56, Tryz.ntmps56
   go_wp2_with fail
   go_ret
   exact ⟨0, rfl, HF.out, HBK.out⟩
 ·have HF : Hid (LastOf a.P r 0) := Or.inr ⟨by simp [V.isR]; omega, rfl⟩
  have hrr : r < 0 := by omega
  go_enter Tryz.func56, Tryz.ntmps56
  go_wp2_with fail
  go_ret
  exact ⟨0, rfl, HF.out, HBK.out⟩
end Go.Proofs.YtmbkmpeongodbaaGreat
