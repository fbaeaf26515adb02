/- LMr LSame LOnc LCpt LCp -/
import Derived.Test.YtmbkmpeongodbaaGreatAm25
import Derived.Shelf.SlicesQ.Reverse
import Derived.Lib.OwnBridge
import Derived.Test.YtmbkmpeongodbaaGreatAm15
import Derived.Laws.StructEq
import Derived.Deep.LoopGhost
namespace Go.Proofs.YtmbkmpeongodbaaGreat.K
open Go.RowKit Go.Sort

def encE (e : En) : List Value := (EC e).toList
structure MR (W : World) (ad : Addr) (d : Array En) : Prop where
 hk : HoldsK encE 4 W ad.block 0 d
 lt : ad.block < W.heap.size
 ha : ad = ⟨ad.block, 0, none⟩
theorem MR.at {W : World} {ad : Addr} {d : Array En} (M : MR W ad d) (i : Nat) (hi : i < d.size) : EnAt W (ad.add (i * 4)) d[i]! := by
 have h : ∀ c, c < 4 → W.cell? ⟨ad.block, i * 4 + c, none⟩ = some (encE d[i]!)[c]! := fun c hc => by
  have := (M.hk.cell hi hc).1
  rwa [Nat.zero_add] at this
 rw [M.ha, Addr.add_lit, Nat.zero_add]
 exact ⟨h 0 (by omega), by rw [Addr.add_lit]; exact h 1 (by omega), by rw [Addr.add_lit]; exact h 2 (by omega), by rw [Addr.add_lit]; exact h 3 (by omega)⟩
def Grew (w w' : World) : Prop := ∃ q os, w' = grow (w.drewN q) os
end Go.Proofs.YtmbkmpeongodbaaGreat.K
namespace Go.Proofs.YtmbkmpeongodbaaGreat.K
open Go.RowKit
attribute [local go_sem ↓] ld28_eq st28_eq
attribute [local go_sem] zero_EC cells_EV
def eqE (x y : En) : Bool := x.rep == y.rep && x.num == y.num && x.sku.toList == y.sku.toList && x.qty == y.qty
theorem run_eq26 (a b c d : Int) (w : World) : (Op.equalIn 9999 44 (.agg #[.int .i64 a, .int .i64 b]) (.agg #[.int .i64 c, .int .i64 d])).run Tryz.prog w = .ok (a == c && b == d) w := by
 have u3 := Tryz.underlying3
 have a3 := Tryz.isAgg3
 have z3 := Tryz.sizeOf3
 have hS : Tryz.prog.underlying 44 = some (.struct (Tryz.prog.fieldsOf 44)) := by kernel_rfl
 have hp : Tryz.prog.stoodInHeld 44 = false := by kernel_rfl
 rw [show (9999 : Nat) = 9998 + 1 from rfl, run_equalIn_struct w 9998 44 _ _ hS hp]
 simp only [Program.fieldsOf, Tryz.underlying44]
 go_simp
 by_cases h1 : a = c <;> by_cases h2 : b = d <;> simp [h1, h2]
theorem run_eq28 (x y : En) (w : World) : (Op.equalIn 10000 46 (.agg (EC x)) (.agg (EC y))).run Tryz.prog w = .ok (eqE x y) w := by
 have u3 := Tryz.underlying3
 have a3 := Tryz.isAgg3
 have z3 := Tryz.sizeOf3
 have u9 := Tryz.underlying9
 have a9 := Tryz.isAgg9
 have z9 := Tryz.sizeOf9
 have a26 := Tryz.isAgg44
 have z26 := Tryz.sizeOf44
 have hS : Tryz.prog.underlying 46 = some (.struct (Tryz.prog.fieldsOf 46)) := by kernel_rfl
 have hp : Tryz.prog.stoodInHeld 46 = false := by kernel_rfl
 obtain ⟨r, m, s, q⟩ := x
 obtain ⟨r', m', s', q'⟩ := y
 have h26 := run_eq26 r m r' m'
 show (Op.equalIn 10000 46 (.agg #[.int .i64 r, .int .i64 m, .string s, .int .i64 q]) (.agg #[.int .i64 r', .int .i64 m', .string s', .int .i64 q'])).run Tryz.prog w = .ok (r == r' && m == m' && s.toList == s'.toList && q == q') w
 rw [show (10000 : Nat) = 9999 + 1 from rfl, run_equalIn_struct w 9999 46 _ _ hS hp]
 simp only [Program.fieldsOf, Tryz.underlying46]
 have h9 : ∀ w, (Op.equalIn 9999 9 (.string s) (.string s')).run Tryz.prog w = .ok (s.toList == s'.toList) w := fun w => run_equalIn_string w 9998 9 s s' Tryz.underlying9
 have h3 : ∀ w, (Op.equalIn 9999 3 (.int .i64 q) (.int .i64 q')).run Tryz.prog w = .ok (q == q') w := fun w => run_equalIn_int w 9998 3 .i64 .i64 q q' Tryz.underlying3
 obtain ⟨D, hD⟩ : ∃ D, 9999 = D := ⟨9999, rfl⟩
 rw [hD] at h26 h9 h3 ⊢
 go_simp
 by_cases e1 : r = r'
 ·by_cases e2 : m = m'
  ·by_cases e3 : s.toList = s'.toList
   ·by_cases e4 : q = q'
    ·simp [e1, e2, e3, e4]
    ·simp [e1, e2, e3, e4]
   ·simp [e1, e2, e3]
  ·simp [e1, e2]
 ·simp [e1]
attribute [local go_sem ↓] run_eq28
end Go.Proofs.YtmbkmpeongodbaaGreat.K
namespace Go.Proofs.YtmbkmpeongodbaaGreat.K
open Go.RowKit
attribute [local go_sem ↓] ld28_eq st28_eq ld26_eq
attribute [local go_sem] zero_EC cells_EV EC_size fold_EC
theorem run_eqD (x y : En) (w : World) : (Op.equalIn 10000 44 (.agg (DC x)) (.agg (DC y))).run Tryz.prog w = .ok (sameDot x y) w := by
 have u3 := Tryz.underlying3
 have a3 := Tryz.isAgg3
 have z3 := Tryz.sizeOf3
 have hS : Tryz.prog.underlying 44 = some (.struct (Tryz.prog.fieldsOf 44)) := by kernel_rfl
 have hp : Tryz.prog.stoodInHeld 44 = false := by kernel_rfl
 obtain ⟨a, b, _, _⟩ := x
 obtain ⟨c, d, _, _⟩ := y
 show (Op.equalIn 10000 44 (.agg #[.int .i64 a, .int .i64 b]) (.agg #[.int .i64 c, .int .i64 d])).run Tryz.prog w = .ok (a == c && b == d) w
 rw [show (10000 : Nat) = 9999 + 1 from rfl, run_equalIn_struct w 9999 44 _ _ hS hp]
 simp only [Program.fieldsOf, Tryz.underlying44]
 go_simp
 by_cases h1 : a = c <;> by_cases h2 : b = d <;> simp [h1, h2]
attribute [local go_sem ↓] run_eq28 run_eqD
def GivesT (w w' : World) (e : Ending) (L : List En) : Prop := ∃ ao n c R er, e = .returned (.tuple #[.slice ao n c, .int .i64 er]) ∧ ESrc w' ao n c R ∧ Below w.heap.size w w' ∧ (∀ ad, ao = some ad → w.heap.size ≤ ad.block) ∧ Settled L R er
end Go.Proofs.YtmbkmpeongodbaaGreat.K
namespace Go.Proofs.YtmbkmpeongodbaaGreat.K
open Go.RowKit Go.Lib
attribute [local go_sem ↓] ld28_eq st28_eq run_eq28
attribute [local go_sem] zero_EC cells_EV EC_size
theorem add_add (p : Addr) (i j : Nat) : (p.add i).add j = p.add (i + j) := by
 unfold Addr.add; split <;> split <;> simp_all [Nat.add_assoc]
def cl22 (a : Value) : Sem Value := Builtin.clear_ #[22] 0 #[a]
theorem cl22_eq (a : Value) : Builtin.clear_ #[22] 0 #[a] = cl22 a := rfl
attribute [local go_sem ↓] cl22_eq
def CompOut (w w' : World) (e : Ending) (ad : Addr) (cap : Nat) (d : Array En) : Prop :=
 ∃ k d', e = .returned (.slice (some ad) k cap) ∧ MR w' ad d' ∧ k ≤ d.size ∧ d'.size = d.size ∧ d'.toList.take k = compactUpTo d d.size ∧ Below ad.block w w'
end Go.Proofs.YtmbkmpeongodbaaGreat.K
namespace Go.Proofs.YtmbkmpeongodbaaGreat.K
open Go.RowKit Go.Lib

theorem asc_of_adj (C : List En) (h : ∀ i, i + 1 < C.length → ahead (C.getD i en0) (C.getD (i + 1) en0) = true) : Asc C := by
 have key : ∀ k i, i + k + 1 < C.length → ahead (C.getD i en0) (C.getD (i + k + 1) en0) = true := by
  intro k
  induction k with
  | zero => intro i hi; exact h i hi
  | succ k ih => intro i hi; exact ahead_trans (ih i (by omega)) (h (i + k + 1) (by omega))
 refine List.pairwise_iff_getElem.2 fun i j hi hj hij => ?_
 have := key (j - i - 1) i (by omega)
 rw [show i + (j - i - 1) + 1 = j by omega] at this
 simpa [List.getD, hi, hj] using this
def AdjN (C : List En) (k : Nat) : Prop := ∀ i, i + 1 < k → sameDot (C.getD (i + 1) en0) (C.getD i en0) = false
end Go.Proofs.YtmbkmpeongodbaaGreat.K
