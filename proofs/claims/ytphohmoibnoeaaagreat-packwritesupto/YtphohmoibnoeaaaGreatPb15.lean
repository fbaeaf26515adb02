/- YBy XBs UPl URd UFn -/
import Derived.Test.YtphohmoibnoeaaaGreatRows
import Derived.WalkKit
import Derived.WalkSpells
import Derived.Deep.QuietTactic
import Derived.BigQuiet
import Derived.Deep.RegionHeld
import Derived.Lib.QuietBelow
import Derived.Laws.Cells
import Derived.Laws.Tables
import Derived.Laws.AppendOwnNone
import Derived.Maps.AppendAt
import Derived.Lib.SliceRun
import Derived.Deep.OwnRows
import Derived.Deep.Heap
import Derived.Deep.CutRange
import Derived.Laws.BytesArg
import Derived.Lib.ConvBytes
import Derived.Lib.BitFns
import Derived.OwnWalk
namespace Go.Proofs.YtphohmoibnoeaaaGreat.U
open Go.RowKit

theorem hide {p : Prop} (h : p) : Hid p := h
theorem w64 {x : Int} (h1 : -9223372036854775808 ≤ x) (h2 : x ≤ 9223372036854775807) : wrap64 x = x := by unfold wrap64; omega
theorem below_new (w : World) (o : Obj) : Below w.heap.size w (w.alloc o) := (Below.refl _ _).alloc (Nat.le_refl _) _
variable {w w' w2 : World} {g : Nat}
def bcs (L : List Int) : List Value := L.map (Value.int .u8)
theorem bcs_append (L M : List Int) : bcs (L ++ M) = bcs L ++ bcs M := by simp [bcs]
theorem bcs_length (L : List Int) : (bcs L).length = L.length := by simp [bcs]
theorem bcs_one (L : List Int) : ∀ u ∈ bcs L, u.oneCell' = true := by
 intro u hu
 obtain ⟨z, _, rfl⟩ := List.mem_map.1 hu
 rfl
theorem bcs_at (L : List Int) (t : Nat) (ht : t < L.length) : (bcs L)[t]? = some (.int .u8 (L.getD t 0)) := by
 simp [bcs, ht, List.getD]
def BR (w : World) (ao : Option Addr) (n cap : Nat) (Z : List Int) : Prop := w.ownsRow 0 5 1 (.slice ao n cap) n (bcs Z)
theorem BR.len {ao : Option Addr} {n cap : Nat} {Z : List Int} (h : BR w ao n cap Z) : Z.length = n := by
 have := h.1
 rw [bcs_length] at this
 omega
theorem BR.nil (w : World) : BR w none 0 0 [] := World.ownsRow_nil _ _ _ _
def blk (ao : Option Addr) : Option Nat := ao.map (·.block)
theorem ownBlock_blk (ao : Option Addr) (n cap : Nat) : (Value.slice ao n cap).ownBlock = blk ao := by cases ao <;> rfl
structure Ap (w w' : World) (ao bo : Option Addr) : Prop where
 grown : w.grownBy w' (blk ao)
 lies : blk bo = blk ao ∨ ∃ k, blk bo = some k ∧ w.heap.size ≤ k
theorem Ap.refl (w : World) (ao : Option Addr) : Ap w w ao ao := ⟨⟨rfl, rfl, rfl, Nat.le_refl _, fun _ _ _ => rfl⟩, Or.inl rfl⟩
theorem Ap.trans {ao bo co : Option Addr} (h : Ap w w' ao bo) (k : Ap w' w2 bo co) : Ap w w2 ao co := by
 refine ⟨⟨k.grown.os.trans h.grown.os, k.grown.tape.trans h.grown.tape, k.grown.output.trans h.grown.output, Nat.le_trans h.grown.size k.grown.size, fun i hi hne => ?_⟩, ?_⟩
 ·refine (k.grown.block i (Nat.lt_of_lt_of_le hi h.grown.size) ?_).trans (h.grown.block i hi hne)
  rcases h.lies with e | ⟨j, e, hj⟩
  ·rw [e]; exact hne
  ·rw [e]
   intro x
   have := Option.some.inj x
   omega
 ·rcases k.lies with e | ⟨j, e, hj⟩
  ·rw [e]
   exact h.lies
  ·exact Or.inr ⟨j, e, Nat.le_trans h.grown.size hj⟩
theorem Ap.new (w : World) (o : Obj) (ao : Option Addr) : Ap w (w.alloc o) ao ao :=
 ⟨⟨rfl, rfl, rfl, by simp, fun k hk _ => Below.heap_alloc w o k hk⟩, Or.inl rfl⟩
theorem infoB : (Tryz.prog.info? 5).map (fun i => (i.zero, i.size, i.bytes)) = some (some (.int .u8 0), 1, 1) := by kernel_rfl
theorem BR.out {n : Nat} {Z : List Int} {v : Value} (h : w.ownsRow 0 5 1 v n (bcs Z)) : ∃ ao cap, v = .slice ao n cap ∧ BR w ao n cap Z := by
 rcases h.2 with ⟨h0, h00⟩ | ⟨q, cap2, cur, hv, r⟩
 ·subst h0 h00
  exact ⟨none, 0, rfl, h⟩
 ·subst hv
  exact ⟨_, _, rfl, h⟩
theorem BR.app {ao : Option Addr} {n cap : Nat} {Z Y : List Int} (h : BR w ao n cap Z) (ad : Addr) (m c : Nat) (hY : Y.length = m) (hc : ∀ t, t < m → w.cell? (ad.add t) = some (.int .u8 (Y.getD t 0))) (hb : n + m ≤ 140737488355328)
  {ops : Array Oper} {rest : List Oper} {o : Oper} {a : Act} {Q : Exit → Act → World → Prop} (hgd : o.guard = none) (s y : Operand) (ho : o.op = .call { callee := .builtin .append, args := #[s, y], argTypes := #[28, 28] })
  (hs : a.eval s = .slice ao n cap) (hy : a.eval y = .slice (some ad) m c)
  (hK : ∀ (bo : Option Addr) (cap2 : Nat) (w2 : World), BR w2 bo (n + m) cap2 (Z ++ Y) → Ap w w2 ao bo → wpList Tryz.prog ops Q rest (a.put o.dst (.slice bo (n + m) cap2)) w2) :
  wpList Tryz.prog ops Q (o :: rest) a w := by
 obtain ⟨i0, hi, hz0, hz1, hz2⟩ := info_parts infoB
 refine wpList_append_own_at _ hgd s y 28 ho 0 5 i0 (.int .u8 0) 1 1 Tryz.underlying28 hi hz0 hz1 hz2 rfl (by decide) _ n (bcs Z) hs h ad m c (bcs Y) hy (by rw [bcs_length, hY, Nat.mul_one]) (fun j u hj => ?_) (bcs_one Y) (by unfold maxLen; omega) (by omega) (Nat.zero_le _) ?_
 ·have hl : j < Y.length := by rw [← bcs_length]; exact (List.getElem?_eq_some_iff.1 hj).1
  rw [bcs_at Y j hl] at hj
  rw [hc j (by omega)]
  exact hj
 ·intro v' w2 hown hgrow _ hat
  rw [← bcs_append] at hown
  obtain ⟨bo, c2, rfl, hB⟩ := BR.out hown
  rw [ownBlock_blk] at hgrow
  rw [ownBlock_blk, ownBlock_blk] at hat
  refine hK bo c2 w2 hB ⟨hgrow, ?_⟩
  rcases hat with e | e
  ·exact Or.inl e
  ·exact Or.inr ⟨_, e, Nat.le_refl _⟩
theorem BR.keep {ao : Option Addr} {n cap : Nat} {Z : List Int} (h : BR w ao n cap Z) (hk : ∀ k, blk ao = some k → w'.heap[k]? = w.heap[k]?) : BR w' ao n cap Z := by
 refine ⟨h.1, ?_⟩
 rcases h.2 with h0 | ⟨q, cap2, cur, hv, hq, hh, r⟩
 ·exact Or.inl h0
 ·simp only [Value.slice.injEq, true_and] at hv
  obtain ⟨rfl, rfl⟩ := hv
  exact Or.inr ⟨q, cap, cur, rfl, hq, (hk q rfl).trans hh, r⟩
theorem BR.lt {ao : Option Addr} {n cap : Nat} {Z : List Int} (h : BR w ao n cap Z) (k : Nat) (hk : blk ao = some k) : k < w.heap.size := by
 rcases h.2 with h0 | ⟨q, cap2, cur, hv, hq, hh, r⟩
 ·simp only [Value.slice.injEq] at h0
  rw [h0.1.1] at hk
  cases hk
 ·simp only [Value.slice.injEq, true_and] at hv
  obtain ⟨rfl, rfl⟩ := hv
  have : q = k := Option.some.inj hk
  subst this
  exact (Array.getElem?_eq_some_iff.1 hh).1
theorem BR.new {ao : Option Addr} {n cap : Nat} {Z : List Int} (h : BR w ao n cap Z) (o : Obj) : BR (w.alloc o) ao n cap Z := h.keep fun k hk => Below.heap_alloc w o k (h.lt k hk)
theorem BR.app1 {ao : Option Addr} {n cap : Nat} {Z : List Int} (h : BR w ao n cap Z) (x : Int) (hb : n + 1 ≤ 140737488355328)
  {ops : Array Oper} {rest : List Oper} {o : Oper} {a : Act} {Q : Exit → Act → World → Prop} (hgd : o.guard = none) (s y : Operand) (ho : o.op = .call { callee := .builtin .append, args := #[s, y], argTypes := #[28, 28] })
  (hs : a.eval s = .slice ao n cap) (hy : a.eval y = .slice (some ⟨w.heap.size, 0, none⟩) 1 1)
  (hK : ∀ (bo : Option Addr) (cap2 : Nat) (w2 : World), BR w2 bo (n + 1) cap2 (Z ++ [x]) → Ap w w2 ao bo → wpList Tryz.prog ops Q rest (a.put o.dst (.slice bo (n + 1) cap2)) w2) :
  wpList Tryz.prog ops Q (o :: rest) a (w.alloc (.cells #[.int .u8 x] 5)) := by
 refine (h.new (.cells #[.int .u8 x] 5)).app ⟨w.heap.size, 0, none⟩ 1 1 (Y := [x]) rfl (fun t ht => ?_) hb hgd s y ho hs hy fun bo c2 w2 hB hA => hK bo c2 w2 hB ((Ap.new w _ ao).trans hA)
 obtain rfl : t = 0 := by omega
 exact cell_one_new w _ _ 0 _ rfl
/-! ### a number's bytes -/
def numB (n : Nat) : List Int := if h : n < 128 then [(n : Int)] else ((n % 128 + 128 : Nat) : Int) :: numB (n / 128)
termination_by n
decreasing_by omega
theorem numB_lt {n : Nat} (h : n < 128) : numB n = [(n : Int)] := by unfold numB; rw [dif_pos h]
theorem numB_ge {n : Nat} (h : ¬ n < 128) : numB n = ((n % 128 + 128 : Nat) : Int) :: numB (n / 128) := by rw [numB, dif_neg h]
theorem numB_len : ∀ (k n : Nat), n < 128 ^ (k + 1) → (numB n).length ≤ k + 1
 | 0, n, h => by rw [numB_lt (by omega)]; simp
 | k + 1, n, h => by
  by_cases hn : n < 128
  ·rw [numB_lt hn]; simp
  ·rw [numB_ge hn]
   have := numB_len k (n / 128) (by
    rw [Nat.pow_succ] at h
    exact Nat.div_lt_of_lt_mul (by omega))
   simp
   omega
theorem numB_nine {n : Nat} (h : n ≤ 9223372036854775807) : (numB n).length ≤ 9 := numB_len 8 n (by omega)
end Go.Proofs.YtphohmoibnoeaaaGreat.U
namespace Go.Proofs.YtphohmoibnoeaaaGreat.U
open Go.RowKit
variable {w w' w2 : World} {g : Nat}

theorem below_drew1 (w : World) : Below w.heap.size w w.drew := ⟨rfl, rfl, rfl, Nat.le_refl _, fun _ _ => rfl⟩
theorem below_drewN (w : World) (n : Nat) : Below w.heap.size w (w.drewN n) := ⟨rfl, rfl, rfl, Nat.le_refl _, fun _ _ => rfl⟩
structure BS (w : World) (ao : Option Addr) (m c : Nat) (Z : List Int) : Prop where
 len : Z.length = m
 nil : ao = none → m = 0 ∧ c = 0
 cell : ∀ ad, ao = some ad → ∀ t, t < m → w.cell? (ad.add t) = some (.int .u8 (Z.getD t 0))
theorem block_of_add (a : Addr) (n : Nat) : (a.add n).block = a.block := by unfold Addr.add; split <;> rfl
theorem BS.ap {so ao bo : Option Addr} {m c : Nat} {Y : List Int} (S : BS w so m c Y) (h : Ap w w' ao bo) (hne : ∀ k, blk so = some k → blk ao ≠ some k) : BS w' so m c Y :=
 ⟨S.len, S.nil, fun ad ha t ht => by
  have hc := S.cell ad ha t ht
  have hl := World.block_lt_of_cell? w _ hc
  rw [World.cell?_of_block (h.grown.block _ hl (fun e => hne ad.block (by rw [ha]; rfl) (by rw [← e, block_of_add])))]
  exact hc⟩
theorem BS.below {so : Option Addr} {m c : Nat} {Y : List Int} (S : BS w so m c Y) (hb : Below w.heap.size w w') : BS w' so m c Y :=
 ⟨S.len, S.nil, fun ad ha t ht => (hb.cell (World.block_lt_of_cell? w _ (S.cell ad ha t ht))).trans (S.cell ad ha t ht)⟩
theorem BR.bs {ao : Option Addr} {n cap : Nat} {Z : List Int} (h : BR w ao n cap Z) : BS w ao n cap Z := by
 have hl := h.len
 rcases h.2 with ⟨h0, h00⟩ | ⟨q, cap2, cur, hv, r⟩
 ·simp only [Value.slice.injEq] at h0
  obtain ⟨rfl, e0, rfl⟩ := h0
  exact ⟨hl, fun _ => ⟨e0, rfl⟩, (fun ad h => by cases h)⟩
 ·simp only [Value.slice.injEq, true_and] at hv
  obtain ⟨rfl, rfl⟩ := hv
  refine ⟨hl, fun h => (by cases h), fun ad ha t ht => ?_⟩
  obtain rfl := Option.some.inj ha
  have := h.cellAt t (by omega)
  rw [Addr.add_lit, Nat.zero_add, this, bcs_at Z t (by omega)]
theorem BR.appB {ao so : Option Addr} {n cap m c : Nat} {Z Y : List Int} (h : BR w ao n cap Z) (S : BS w so m c Y) (hb : n + m ≤ 140737488355328)
  {ops : Array Oper} {rest : List Oper} {o : Oper} {a : Act} {Q : Exit → Act → World → Prop} (hgd : o.guard = none) (s y : Operand) (ho : o.op = .call { callee := .builtin .append, args := #[s, y], argTypes := #[28, 28] })
  (hs : a.eval s = .slice ao n cap) (hy : a.eval y = .slice so m c)
  (hK : ∀ (bo : Option Addr) (cap2 : Nat) (w2 : World), BR w2 bo (n + m) cap2 (Z ++ Y) → Ap w w2 ao bo → wpList Tryz.prog ops Q rest (a.put o.dst (.slice bo (n + m) cap2)) w2) :
  wpList Tryz.prog ops Q (o :: rest) a w := by
 cases so with
 | none =>
  obtain ⟨i0, hi, hz0, hz1, hz2⟩ := info_parts infoB
  obtain ⟨rfl, rfl⟩ := S.nil rfl
  have e := List.eq_nil_of_length_eq_zero S.len
  subst e
  refine wpList_append_own_none hgd s y 28 ho 0 5 i0 1 Tryz.underlying28 hi _ n (bcs Z) hs h hy ?_
  have := hK ao cap w (by rw [List.append_nil]; exact h) (Ap.refl _ _)
  exact this
 | some ad => exact h.app ad m c S.len (S.cell ad rfl) hb hgd s y ho hs hy hK
theorem BR.lit (w : World) : BR (w.alloc (.cells #[] 5)) (some ⟨w.heap.size, 0, none⟩) 0 0 [] :=
 ⟨by simp [bcs], .inr ⟨w.heap.size, 0, _, rfl, Nat.zero_le _, heap_alloc_new w _, Nat.le_refl _, by unfold maxLen; omega, by simp, by simp [bcs]⟩⟩
def NewB (w w' : World) (bo : Option Addr) : Prop := Below w.heap.size w w' ∧ ∀ k, blk bo = some k → w.heap.size ≤ k
theorem Ap.fresh {o : Obj} {bo : Option Addr} (h : Ap (w.alloc o) w' (some ⟨w.heap.size, 0, none⟩) bo) : NewB w w' bo := by
 have hs := h.grown.size
 rw [World.size_alloc] at hs
 refine ⟨(below_new w o).trans ⟨h.grown.os, h.grown.tape, h.grown.output, h.grown.size, fun k hk => h.grown.block k (by rw [World.size_alloc]; omega) (fun e => ?_)⟩, fun k hk => ?_⟩
 ·have : k = w.heap.size := Option.some.inj e
  omega
 ·rcases h.lies with e | ⟨j, e, hj⟩
  ·rw [e] at hk
   have : w.heap.size = k := Option.some.inj hk
   omega
  ·rw [e] at hk
   have := Option.some.inj hk
   rw [World.size_alloc] at hj
   omega
theorem clone_any (so : Option Addr) (n c : Nat) (Z : List Int) (w : World) (S : BS w so n c Z) (hn : n ≤ 140737488355328) : Calls Tryz.prog 86 #[.slice so n c] w fun r w' => ∃ bo cc, r = .returned (.slice bo n cc) ∧ BR w' bo n cc Z ∧ NewB w w' bo := by
 have q32 : ∀ (w : World) (a : Option Addr) (n c n' c' : Nat), (binOp .eql 28 (.slice a n c) (.slice none n' c')).run Tryz.prog w = .ok (.bool a.isNone) w := fun w a n c n' c' => Lib.run_eql_slice_nil w _ _ a n c n' c' Tryz.underlying28
 cases so with
 | none =>
  obtain ⟨rfl, rfl⟩ := S.nil rfl
  have e := List.eq_nil_of_length_eq_zero S.len
  subst e
  go_enter Tryz.func86, Tryz.ntmps86
  go_wp2_with fail
  go_ret
  exact ⟨_, _, rfl, BR.nil _, Below.refl _ _, fun k hk => by cases hk⟩
 | some ad =>
  have HS := hide (S.below (below_new w (.cells #[] 5)))
  have HL := hide (BR.lit w)
  have HN : Hid (0 + n ≤ 140737488355328) := by show _ ≤ _; omega
  clear S hn
  go_enter Tryz.func86, Tryz.ntmps86
  go_wp2_with (at_builtin; refine HL.out.appB HS.out HN.out rfl (.tmp 5) (.tmp 6) rfl rfl rfl ?_; intro a5 c5 w5 S5 b5; rw [Nat.zero_add] at S5 ⊢; have HS5 := hide S5; have HB5 := hide b5; clear S5 b5)
  go_ret
  exact ⟨_, _, rfl, HS5.out, HB5.out.fresh⟩
theorem NewB.of_ap {bo : Option Addr} (h : Ap w w' none bo) : NewB w w' bo :=
 ⟨⟨h.grown.os, h.grown.tape, h.grown.output, h.grown.size, fun k hk => h.grown.block k hk (fun e => by cases e)⟩, fun k hk => by
  rcases h.lies with e | ⟨j, e, hj⟩
  ·rw [e] at hk; cases hk
  ·rw [e] at hk
   have := Option.some.inj hk
   omega⟩
theorem NewB.pre {bo : Option Addr} (hb : Below w.heap.size w w') (h : NewB w' w2 bo) : NewB w w2 bo :=
 ⟨hb.trans (h.1.mono hb.size), fun k hk => Nat.le_trans hb.size (h.2 k hk)⟩
theorem BR.below {ao : Option Addr} {n cap : Nat} {Z : List Int} (h : BR w ao n cap Z) (hb : Below w.heap.size w w') : BR w' ao n cap Z := h.keep fun k hk => hb.block k (h.lt k hk)
theorem BR.cap {ao : Option Addr} {n c : Nat} {Z : List Int} (h : BR w ao n c Z) : n ≤ c := by
 rcases h.2 with ⟨h0, _⟩ | ⟨q, cap2, cur, hv, hq, hh, hnc, r⟩
 ·simp only [Value.slice.injEq] at h0
  omega
 ·simp only [Value.slice.injEq, true_and] at hv
  obtain ⟨rfl, rfl⟩ := hv
  exact hnc
theorem BS.nil_ (w : World) : BS w none 0 0 [] := ⟨rfl, fun _ => ⟨rfl, rfl⟩, fun ad h => by cases h⟩
theorem BS.str {ao : Option Addr} {n cap : Nat} {Z : List Int} (S : BS w ao n cap Z) : (convert 28 9 (.slice ao n cap)).run Tryz.prog w = .ok (.string (strOfNums Z)) w := by
 cases ao with
 | none =>
  obtain ⟨rfl, rfl⟩ := S.nil rfl
  have e := List.eq_nil_of_length_eq_zero S.len
  subst e
  rw [run_convert_bytes_nil w 28 5 Tryz.underlying28 Tryz.underlying5 0 0 9 Tryz.underlying9]
  rfl
 | some ad =>
  by_cases h0 : n = 0
  ·subst h0
   have e := List.eq_nil_of_length_eq_zero S.len
   subst e
   obtain ⟨q, off, sp⟩ := ad
   simp [convert, run_underlying Tryz.underlying28, run_underlying Tryz.underlying9, run_underlying Tryz.underlying5, Conv.bytesToString]
   rfl
  ·have hs := World.cell?_spot (S.cell ad rfl 0 (by omega))
   obtain ⟨q, off, sp⟩ := ad
   have hs : sp = none := by simpa [Addr.add] using hs
   subst hs
   refine run_convert_bytes_arg w 28 5 Tryz.underlying28 Tryz.underlying5 q off n cap Z S.len (fun i hi => ?_) 9 Tryz.underlying9
   have := S.cell _ rfl i hi
   rw [Addr.add_lit] at this
   exact this
end Go.Proofs.YtphohmoibnoeaaaGreat.U
namespace Go.Proofs.YtphohmoibnoeaaaGreat.U
open Go.RowKit

def Src (w : World) (ao : Option Addr) (m c : Nat) (Z : List Int) : Prop :=
 Z.length = m ∧ (ao = none → m = 0 ∧ c = 0) ∧ (∀ ad, ao = some ad → ∀ t, t < m → w.cell? (ad.add t) = some (.int .u8 (Z.getD t 0))) ∧ ∀ t, 0 ≤ Z.getD t 0 ∧ Z.getD t 0 ≤ 255
theorem Src.below {w w' : World} {ao : Option Addr} {m c : Nat} {Z : List Int} (h : Src w ao m c Z) (hb : Below w.heap.size w w') : Src w' ao m c Z :=
 ⟨h.1, h.2.1, fun ad ha t ht => (hb.cell (World.block_lt_of_cell? w _ (h.2.2.1 ad ha t ht))).trans (h.2.2.1 ad ha t ht), h.2.2.2⟩

def val (Z : List Int) (a : Nat) : Nat → Int
 | 0 => 0
 | k + 1 => val Z a k + (Z.getD (a + k) 0 % 128) * 128 ^ k
theorem pow128 (k : Nat) : (0 : Int) < 128 ^ k := Int.pow_pos (by omega)
theorem val_bd (Z : List Int) (a k : Nat) : 0 ≤ val Z a k ∧ val Z a k < 128 ^ k := by
 induction k with
 | zero => exact ⟨Int.le_refl _, by simp [val]⟩
 | succ k ih =>
  have hp := pow128 k
  have h1 : 0 ≤ Z.getD (a + k) 0 % 128 := Int.emod_nonneg _ (by omega)
  have h2 : Z.getD (a + k) 0 % 128 ≤ 127 := by have := Int.emod_lt_of_pos (Z.getD (a + k) 0) (show (0 : Int) < 128 by omega); omega
  have h3 : 0 ≤ (Z.getD (a + k) 0 % 128) * 128 ^ k := Int.mul_nonneg h1 (Int.le_of_lt hp)
  have h4 : (Z.getD (a + k) 0 % 128) * 128 ^ k ≤ 127 * 128 ^ k := Int.mul_le_mul_of_nonneg_right h2 (Int.le_of_lt hp)
  refine ⟨by show 0 ≤ val Z a k + _; omega, ?_⟩
  show val Z a k + _ < (128 : Int) ^ (k + 1)
  rw [Int.pow_succ]
  omega
theorem val_drop (Z : List Int) (a k : Nat) : val (Z.drop a) 0 k = val Z a k := by
 induction k with
 | zero => rfl
 | succ k ih => simp only [val, ih, Nat.zero_add]; simp [List.getD]
def scan (Z : List Int) (a : Nat) : Nat → Nat → Int × Int × Int
 | 0, _ => (0, 0, 51)
 | f + 1, k => if Z.length ≤ a + k then (0, 0, 50) else if Z.getD (a + k) 0 < 128 then (if Z.getD (a + k) 0 = 0 ∧ 0 < k then (0, 0, 51) else (val Z a (k + 1), (k : Int) + 1, 0)) else scan Z a f (k + 1)
def rdN (Z : List Int) (a : Nat) : Int × Int × Int := scan Z a 9 0
theorem scan_drop (Z : List Int) (a f k : Nat) : scan (Z.drop a) 0 f k = scan Z a f k := by
 induction f generalizing k with
 | zero => rfl
 | succ f ih =>
  have e : (Z.drop a).getD (0 + k) 0 = Z.getD (a + k) 0 := by simp [List.getD]
  have l : (Z.drop a).length ≤ 0 + k ↔ Z.length ≤ a + k := by simp; omega
  simp only [scan, val_drop, e, ih, l]
theorem rdN_drop (Z : List Int) (a : Nat) : rdN (Z.drop a) 0 = rdN Z a := scan_drop Z a 9 0
def numA (Z : List Int) (a : Int) : Int × Int × Int :=
 if a < 0 ∨ (Z.length : Int) < a then (0, 0, 2) else if (rdN Z a.toNat).2.2 = 0 then ((rdN Z a.toNat).1, a + (rdN Z a.toNat).2.1, 0) else (0, 0, (rdN Z a.toNat).2.2)
theorem or_add (x g : Int) (k : Nat) (hk : k ≤ 8) (h0 : 0 ≤ x) (h1 : x < 128 ^ k) (g0 : 0 ≤ g) (g1 : g ≤ 127) : bits .or .i64 x (g * 128 ^ k) = x + g * 128 ^ k := by
 obtain ⟨X, rfl⟩ := Int.eq_ofNat_of_zero_le h0
 obtain ⟨G, rfl⟩ := Int.eq_ofNat_of_zero_le g0
 have hX : X < 2 ^ (7 * k) := by rw [Nat.pow_mul]; exact_mod_cast h1
 have hG : G < 128 := by omega
 have e : (G : Int) * 128 ^ k = ((2 ^ (7 * k) * G : Nat) : Int) := by rw [Nat.pow_mul, Nat.mul_comm]; simp
 have hlt : 2 ^ (7 * k) * G + X < 2 ^ 63 := by
  have h5 : 2 ^ (7 * k) * G + X < 2 ^ (7 * k) * 128 := by
   have : 2 ^ (7 * k) * G + 2 ^ (7 * k) ≤ 2 ^ (7 * k) * 128 := by rw [← Nat.mul_succ]; exact Nat.mul_le_mul_left _ hG
   omega
  have h6 : 2 ^ (7 * k) * 128 ≤ 2 ^ 63 := by rw [show (128 : Nat) = 2 ^ 7 from rfl, ← Nat.pow_add]; exact Nat.pow_le_pow_right (by omega) (by omega)
  omega
 rw [e]
 show IntKind.i64.wrap ((BitVec.ofInt 64 ((X : Nat) : Int) ||| BitVec.ofInt 64 ((2 ^ (7 * k) * G : Nat) : Int)).toNat : Int) = _
 rw [BitVec.toNat_or, BitVec.toNat_ofInt, BitVec.toNat_ofInt]
 have m1 : ((X : Int) % ((2 ^ 64 : Nat) : Int)).toNat = X := by omega
 have m2 : (((2 ^ (7 * k) * G : Nat) : Int) % ((2 ^ 64 : Nat) : Int)).toNat = 2 ^ (7 * k) * G := by
  generalize 2 ^ (7 * k) * G = q at hlt ⊢
  omega
 rw [m1, m2, Nat.or_comm, ← Nat.two_pow_add_eq_or_of_lt hX]
 generalize 2 ^ (7 * k) * G = q at hlt ⊢
 have hlt' : ((q + X : Nat) : Int) < 9223372036854775808 := by omega
 have h0' : 0 ≤ ((q + X : Nat) : Int) := by omega
 have e' : (X : Int) + q = ((q + X : Nat) : Int) := by omega
 rw [e']
 generalize ((q + X : Nat) : Int) = r at hlt' h0' ⊢
 have hm : r % 2 ^ 64 = r := by omega
 simp only [IntKind.wrap, IntKind.bits, IntKind.signed, hm]
 rw [if_neg (by simp; omega)]
end Go.Proofs.YtphohmoibnoeaaaGreat.U
namespace Go.Proofs.YtphohmoibnoeaaaGreat.U
open Go.RowKit

theorem cell_at {w : World} {ao : Option Addr} {n cap : Nat} {Z : List Int} (hS : Src w ao n cap Z) (t : Nat) (ht : t < n) : ∃ ad, ao = some ad ∧ w.cell? (ad.add t) = some (.int .u8 (Z.getD t 0)) := by
 cases ao with
 | none => have := hS.2.1 rfl; omega
 | some ad => exact ⟨ad, rfl, hS.2.2.1 ad rfl t ht⟩
def p3 (x : Int × Int × Int) : Ending := .returned (.tuple #[.int .i64 x.1, .int .i64 x.2.1, .int .i64 x.2.2])
theorem scan_end (Z : List Int) (a f k : Nat) (h : Z.length ≤ a + k) : scan Z a (f + 1) k = (0, 0, 50) := by rw [scan, if_pos h]
theorem scan_on (Z : List Int) (a f k : Nat) (h : ¬ Z.length ≤ a + k) (h2 : ¬ Z.getD (a + k) 0 < 128) : scan Z a (f + 1) k = scan Z a f (k + 1) := by rw [scan, if_neg h, if_neg h2]
theorem scan_bad (Z : List Int) (a f k : Nat) (h : ¬ Z.length ≤ a + k) (h2 : Z.getD (a + k) 0 = 0) (h3 : 0 < k) : scan Z a (f + 1) k = (0, 0, 51) := by rw [scan, if_neg h, if_pos (by omega), if_pos ⟨h2, h3⟩]
theorem scan_good (Z : List Int) (a f k : Nat) (h : ¬ Z.length ≤ a + k) (h2 : Z.getD (a + k) 0 < 128) (h3 : ¬ (Z.getD (a + k) 0 = 0 ∧ 0 < k)) : scan Z a (f + 1) k = (val Z a (k + 1), (k : Int) + 1, 0) := by rw [scan, if_neg h, if_pos h2, if_neg h3]

def rdA (Z : List Int) (a : Nat) : Int × Int × Int := if (rdN Z a).2.2 = 0 then ((rdN Z a).1, (a : Int) + (rdN Z a).2.1, 0) else rdN Z a

theorem pow_le (k : Nat) (h : k ≤ 8) : (128 : Int) ^ k * 128 ≤ 9223372036854775808 := by
 have : (128 : Nat) ^ k ≤ 128 ^ 8 := Nat.pow_le_pow_right (by omega) h
 have h2 : ((128 ^ k : Nat) : Int) ≤ ((128 ^ 8 : Nat) : Int) := by exact_mod_cast this
 simp at h2
 omega
theorem step_val (Z : List Int) (a k : Nat) (hk : k ≤ 8) (z c V U : Int) (hz : Z.getD (a + k) 0 = z) (hc : c = z % 128) (hV : val Z a k = V) (hU : (128 : Int) ^ k = U) :
  val Z a (k + 1) = V + c * U ∧ 0 ≤ V ∧ 0 ≤ c * U ∧ V + c * U < 9223372036854775808 ∧ 1 ≤ U ∧ U * 128 ≤ 9223372036854775808 := by
 have b1 := val_bd Z a k
 have b2 := val_bd Z a (k + 1)
 have e : val Z a (k + 1) = V + c * U := by rw [hc, ← hz, ← hV, ← hU]; rfl
 have p1 := pow_le k hk
 have p2 := pow128 k
 rw [Int.pow_succ, e, hU] at b2
 rw [hV] at b1
 rw [hU] at p1 p2
 have h0 : 0 ≤ c * U := Int.mul_nonneg (by omega) (by omega)
 exact ⟨e, b1.1, h0, by omega, by omega, p1⟩

end Go.Proofs.YtphohmoibnoeaaaGreat.U
namespace Go.Proofs.YtphohmoibnoeaaaGreat.U
open Go.RowKit

theorem step_or (Z : List Int) (k : Nat) (hk : k ≤ 8) (z V : Int) (hz : Z.getD k 0 = z) (hV : val Z 0 k = V) : bits .or .i64 V (wrap64 (z % 128 * 2 ^ (7 * k))) = val Z 0 (k + 1) := by
 have b1 := val_bd Z 0 k
 rw [hV] at b1
 have e2 : (2 : Int) ^ (7 * k) = 128 ^ k := by rw [Int.pow_mul]; rfl
 have h2 : z % 128 ≤ 127 := by omega
 obtain ⟨e1, v0, c0, c1, _, _⟩ := step_val Z 0 k hk z (z % 128) V (128 ^ k) (by rw [Nat.zero_add]; exact hz) rfl hV rfl
 have e3 : wrap64 (z % 128 * 128 ^ k) = z % 128 * 128 ^ k := by unfold wrap64; omega
 rw [e2, e3, or_add V (z % 128) k hk b1.1 b1.2 (by omega) h2, e1]

set_option maxHeartbeats 1600000 in
theorem first_short (ao : Option Addr) (n cap : Nat) (Z : List Int) (w : World) (hS : Src w ao n cap Z) (hcap : n ≤ cap) (h9 : n ≤ 9) :
  Calls Tryz.prog 105 #[.slice ao n cap] w fun e w' => e = p3 (rdN Z 0) ∧ w' = w := by
 go_enter Tryz.func105, Tryz.ntmps105
 go_wp2
 go_loop [5, 14] (fun s i => ∃ k : Nat, k ≤ n ∧ s = .int .i64 (val Z 0 k) ∧ i = .int .i64 k ∧ Hid (scan Z 0 (9 - k) k = rdN Z 0)) (fun _ i => 9 - (intOf i).toNat)
 case atStart => exact ⟨0, Nat.zero_le _, rfl, rfl, rfl⟩
 case round =>
  obtain ⟨k, hk, rfl, rfl, HK⟩ := hrel
  obtain ⟨V, HV⟩ : ∃ V, Hid (val Z 0 k = V) := ⟨_, rfl⟩
  rw [HV.out]
  by_cases hlt : k < n
  ·have hl : ¬ Z.length ≤ 0 + k := by have := hS.1; omega
   obtain ⟨ad, rfl, hcell⟩ := cell_at hS k (by omega)
   have hbd := hS.2.2.2 k
   obtain ⟨z, Hz⟩ : ∃ z, Hid (Z.getD k 0 = z) := ⟨_, rfl⟩
   rw [Hz.out] at hcell hbd
   have HL := hide hl
   have hf : 9 - k = (9 - (k + 1)) + 1 := by omega
   rw [hf] at HK
   have Hz' : Hid (Z.getD (0 + k) 0 = z) := by show _ = _; rw [Nat.zero_add]; exact Hz.out
   have HO := hide (step_or Z k (by omega) z V Hz.out HV.out)
   obtain ⟨O, HO'⟩ : ∃ O, Hid (bits .or .i64 V (wrap64 (z % 128 * 2 ^ (7 * k))) = O) := ⟨_, rfl⟩
   rw [HO'.out] at HO
   clear hl hf
   by_cases h1 : 128 ≤ z
   ·have HN : Hid (scan Z 0 (9 - (k + 1)) (k + 1) = rdN Z 0) := by show _ = _; rw [← HK.out, scan_on Z 0 _ k HL.out (by rw [Hz'.out]; omega)]
    go_wp2
    go_round
    case rel => exact ⟨k + 1, by omega, by rw [← HO.out, HO'.out], by go_num, HN⟩
    case measure => simp [intOf]; omega
   ·have h1' : z < 128 := by omega
    by_cases h0 : z = 0 ∧ 0 < k
    ·have HF : Hid (rdN Z 0 = (0, 0, 51)) := by show _ = _; rw [← HK.out, scan_bad Z 0 _ k HL.out (by rw [Hz'.out]; exact h0.1) h0.2]
     have hk0 := h0.2
     have h0' : (z == 0) = true := by simpa using h0.1
     clear h0
     go_wp2
     go_ret3
     exact ⟨by rw [HF.out]; rfl, rfl⟩
    ·have HF : Hid (rdN Z 0 = (val Z 0 (k + 1), (k : Int) + 1, 0)) := by show _ = _; rw [← HK.out, scan_good Z 0 _ k HL.out (by rw [Hz'.out]; exact h1') (by rw [Hz'.out]; exact h0)]
     by_cases hz0 : z = 0
     ·have hk0 : ¬ 0 < k := fun h => h0 ⟨hz0, h⟩
      have h0' : (z == 0) = true := by simpa using hz0
      clear h0 hz0
      go_wp2
      go_ret3
      exact ⟨by rw [HF.out, ← HO.out, ← HO'.out]; rfl, rfl⟩
     ·have h0' : (z == 0) = false := by simpa using hz0
      clear h0 hz0
      go_wp2
      go_ret3
      exact ⟨by rw [HF.out, ← HO.out, ← HO'.out]; rfl, rfl⟩
  ·obtain rfl : k = n := by omega
   by_cases h8 : k < 9
   ·have HF : Hid (rdN Z 0 = (0, 0, 50)) := by show _ = _; rw [← HK.out, show 9 - k = (9 - (k + 1)) + 1 by omega, scan_end Z 0 _ k (by have := hS.1; omega)]
    go_wp2
    go_ret3
    exact ⟨by rw [HF.out]; rfl, rfl⟩
   ·have HF : Hid (rdN Z 0 = (0, 0, 51)) := by show _ = _; rw [← HK.out, show 9 - k = 0 by omega]; rfl
    go_wp2
    go_ret3
    exact ⟨by rw [HF.out]; rfl, rfl⟩
set_option maxHeartbeats 1600000 in
theorem first_long (ao : Option Addr) (n cap : Nat) (Z : List Int) (w : World) (hS : Src w ao n cap Z) (hcap : n ≤ cap) (h9 : ¬ n ≤ 9) (hn : n ≤ 4611686018427387904) :
  Calls Tryz.prog 105 #[.slice ao n cap] w fun e w' => e = p3 (rdN Z 0) ∧ w' = w := by
 obtain ⟨ad, rfl, _⟩ := cell_at hS 0 (by omega)
 go_enter Tryz.func105, Tryz.ntmps105
 go_wp2
 go_loop [5, 14] (fun s i => ∃ k : Nat, k ≤ 9 ∧ s = .int .i64 (val Z 0 k) ∧ i = .int .i64 k ∧ Hid (scan Z 0 (9 - k) k = rdN Z 0)) (fun _ i => 9 - (intOf i).toNat)
 case atStart => exact ⟨0, Nat.zero_le _, rfl, rfl, rfl⟩
 case round =>
  obtain ⟨k, hk, rfl, rfl, HK⟩ := hrel
  obtain ⟨V, HV⟩ : ∃ V, Hid (val Z 0 k = V) := ⟨_, rfl⟩
  rw [HV.out]
  by_cases hlt : k < 9
  ·have hl : ¬ Z.length ≤ 0 + k := by have := hS.1; omega
   have hcell := hS.2.2.1 ad rfl k (by omega)
   have hbd := hS.2.2.2 k
   obtain ⟨z, Hz⟩ : ∃ z, Hid (Z.getD k 0 = z) := ⟨_, rfl⟩
   rw [Hz.out] at hcell hbd
   have HL := hide hl
   have hf : 9 - k = (9 - (k + 1)) + 1 := by omega
   rw [hf] at HK
   have Hz' : Hid (Z.getD (0 + k) 0 = z) := by show _ = _; rw [Nat.zero_add]; exact Hz.out
   have HO := hide (step_or Z k (by omega) z V Hz.out HV.out)
   obtain ⟨O, HO'⟩ : ∃ O, Hid (bits .or .i64 V (wrap64 (z % 128 * 2 ^ (7 * k))) = O) := ⟨_, rfl⟩
   rw [HO'.out] at HO
   clear hl hf
   by_cases h1 : 128 ≤ z
   ·have HN : Hid (scan Z 0 (9 - (k + 1)) (k + 1) = rdN Z 0) := by show _ = _; rw [← HK.out, scan_on Z 0 _ k HL.out (by rw [Hz'.out]; omega)]
    go_wp2
    go_round
    case rel => exact ⟨k + 1, by omega, by rw [← HO.out, HO'.out], by go_num, HN⟩
    case measure => simp [intOf]; omega
   ·have h1' : z < 128 := by omega
    by_cases h0 : z = 0 ∧ 0 < k
    ·have HF : Hid (rdN Z 0 = (0, 0, 51)) := by show _ = _; rw [← HK.out, scan_bad Z 0 _ k HL.out (by rw [Hz'.out]; exact h0.1) h0.2]
     have hk0 := h0.2
     have h0' : (z == 0) = true := by simpa using h0.1
     clear h0
     go_wp2
     go_ret3
     exact ⟨by rw [HF.out]; rfl, rfl⟩
    ·have HF : Hid (rdN Z 0 = (val Z 0 (k + 1), (k : Int) + 1, 0)) := by show _ = _; rw [← HK.out, scan_good Z 0 _ k HL.out (by rw [Hz'.out]; exact h1') (by rw [Hz'.out]; exact h0)]
     by_cases hz0 : z = 0
     ·have hk0 : ¬ 0 < k := fun h => h0 ⟨hz0, h⟩
      have h0' : (z == 0) = true := by simpa using hz0
      clear h0 hz0
      go_wp2
      go_ret3
      exact ⟨by rw [HF.out, ← HO.out, ← HO'.out]; rfl, rfl⟩
     ·have h0' : (z == 0) = false := by simpa using hz0
      clear h0 hz0
      go_wp2
      go_ret3
      exact ⟨by rw [HF.out, ← HO.out, ← HO'.out]; rfl, rfl⟩
  ·obtain rfl : k = 9 := by omega
   have HF : Hid (rdN Z 0 = (0, 0, 51)) := by show _ = _; rw [← HK.out]; rfl
   go_wp2
   go_ret3
   exact ⟨by rw [HF.out]; rfl, rfl⟩
theorem first_any (ao : Option Addr) (n cap : Nat) (Z : List Int) (w : World) (hS : Src w ao n cap Z) (hcap : n ≤ cap) (hn : n ≤ 4611686018427387904) :
  Calls Tryz.prog 105 #[.slice ao n cap] w fun e w' => e = p3 (rdN Z 0) ∧ w' = w := by
 by_cases h9 : n ≤ 9
 ·exact first_short ao n cap Z w hS hcap h9
 ·exact first_long ao n cap Z w hS hcap h9 hn
end Go.Proofs.YtphohmoibnoeaaaGreat.U
