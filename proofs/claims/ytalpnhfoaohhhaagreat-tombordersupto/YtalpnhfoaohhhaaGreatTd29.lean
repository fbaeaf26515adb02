/- LDd LShf LMr LOnc LCpt LCp -/
import Derived.Test.YtalpnhfoaohhhaaGreatTd28
import Derived.Lib.SlicesCompact
import Derived.Shelf.SlSortCmp.WholeK
import Derived.Test.YtalpnhfoaohhhaaGreatProg
import Derived.Shelf.SlicesQ.Reverse
import Derived.Lib.OwnBridge
import Derived.Test.YtalpnhfoaohhhaaGreatTd21
import Derived.Deep.LoopGhost
namespace Go.Proofs.YtalpnhfoaohhhaaGreat.K
open Go.RowKit

instance : DecidableEq En := fun a b =>
 decidable_of_iff (a.rep = b.rep /\ a.num = b.num /\ a.sku = b.sku /\ a.qty = b.qty) ⟨fun ⟨h1, h2, h3, h4⟩ => by cases a; cases b; simp_all, fun h => by subst h; exact ⟨rfl, rfl, rfl, rfl⟩⟩
instance : Inhabited En := ⟨en0⟩
def sameDot (x y : En) : Bool := x.rep == y.rep && x.num == y.num
theorem ahead_trans {x y z : En} (h : ahead x y = true) (h2 : ahead y z = true) : ahead x z = true := by
 simp [ahead] at *; omega
theorem ahead_irr (x : En) : ahead x x = false := by simp [ahead]
theorem ahead_asymm {x y : En} (h : ahead x y = true) : ahead y x = false := by
 simp [ahead] at *; omega
theorem ahead_same {x y : En} (h : ahead x y = true) : sameDot x y = false := by
 simp [ahead, sameDot] at *; omega
theorem same_symm {x y : En} : sameDot x y = sameDot y x := by
 simp [sameDot, Bool.beq_comm]
def Clash (L : List En) : Prop := ∃ x, x ∈ L /\ ∃ y, y ∈ L /\ sameDot x y = true /\ x ≠ y
def Asc (R : List En) : Prop := R.Pairwise (fun x y => ahead x y = true)
def Settled (L R : List En) (e : Int) : Prop := (Clash L /\ R = [] /\ e = 10) ∨ (¬ Clash L /\ e = 0 /\ Asc R /\ ∀ x, x ∈ R ↔ x ∈ L)
theorem asc_unique : ∀ {R R' : List En}, Asc R -> Asc R' -> (∀ x, x ∈ R ↔ x ∈ R') -> R = R'
 | [], [], _, _, _ => rfl
 | [], b :: _, _, _, h => absurd ((h b).2 (List.mem_cons_self ..)) (by simp)
 | a :: _, [], _, _, h => absurd ((h a).1 (List.mem_cons_self ..)) (by simp)
 | a :: R, b :: R', h1, h2, h => by
  obtain ⟨a1, a2⟩ := List.pairwise_cons.1 h1
  obtain ⟨b1, b2⟩ := List.pairwise_cons.1 h2
  have e : a = b := by
   rcases List.mem_cons.1 ((h a).1 (List.mem_cons_self ..)) with e | e
   ·exact e
   ·rcases List.mem_cons.1 ((h b).2 (List.mem_cons_self ..)) with e' | e'
    ·exact e'.symm
    ·have := ahead_asymm (a1 b e'); rw [b1 a e] at this; cases this
  subst e
  rw [asc_unique a2 b2 (fun x => ?_)]
  have hx := h x
  simp only [List.mem_cons] at hx
  constructor
  ·intro hm
   rcases hx.1 (Or.inr hm) with e | e
   ·subst e; have := a1 x hm; rw [ahead_irr] at this; cases this
   ·exact e
  ·intro hm
   rcases hx.2 (Or.inr hm) with e | e
   ·subst e; have := b1 x hm; rw [ahead_irr] at this; cases this
   ·exact e
theorem asc_noclash {R L : List En} (h : Asc R) (hm : ∀ x, x ∈ R ↔ x ∈ L) : ¬ Clash L := by
 rintro ⟨x, hx, y, hy, hs, hne⟩
 have hx := (hm x).2 hx
 have hy := (hm y).2 hy
 clear hm
 induction R with
 | nil => simp at hx
 | cons a R ih =>
  obtain ⟨a1, a2⟩ := List.pairwise_cons.1 h
  rcases List.mem_cons.1 hx with e | e
  ·subst e
   rcases List.mem_cons.1 hy with e | e
   ·exact hne e.symm
   ·have := ahead_same (a1 y e); rw [hs] at this; cases this
  ·rcases List.mem_cons.1 hy with e' | e'
   ·subst e'
    have := ahead_same (a1 x e); rw [same_symm, hs] at this; cases this
   ·exact ih a2 e e'
def OnceInv (L : List En) (k : Nat) (acc : List En) : Prop := Asc acc /\ ∀ x, x ∈ acc ↔ x ∈ L.take k
theorem getD_mem (L : List En) (k : Nat) (h : k < L.length) : L.getD k en0 ∈ L := by
 have : L.getD k en0 = L[k] := by simp [List.getD, h]
 rw [this]; exact List.getElem_mem _
end Go.Proofs.YtalpnhfoaohhhaaGreat.K
namespace Go.Proofs
open Go.Shelf
def Tryz.sortEn_ren : Go.Shelf.Ren := ⟨fun | 6 => 99 | 15 => 133 | 14 => 132 | 28 => 165 | 29 => 166 | 20 => 157 | 21 => 158 | 22 => 159 | 23 => 160 | 24 => 161 | 25 => 162 | 26 => 163 | 27 => 164 | 46 => 187 | 47 => 188 | 48 => 189 | 49 => 190 | 50 => 191 | 57 => 211 | n => n, fun | 22 => 22 | 24 => 36 | 25 => 106 | 3 => 3 | 39 => 119 | 0 => 0 | 53 => 182 | 55 => 184 | 4 => 4 | 46 => 176 | 45 => 175 | 50 => 76 | 5 => 5 | 9 => 9 | 66 => 198 | 70 => 202 | 76 => 214 | 77 => 165 | n => n, fun | n => n⟩
end Go.Proofs
namespace Go.Proofs.YtalpnhfoaohhhaaGreat.K
section
open Go.RowKit Go.Sort

def encE (e : En) : List Value := (EC e).toList
structure MR (W : World) (ad : Addr) (d : Array En) : Prop where
 hk : HoldsK encE 4 W ad.block 0 d
 lt : ad.block < W.heap.size
 ha : ad = ⟨ad.block, 0, none⟩
theorem MR.at {W : World} {ad : Addr} {d : Array En} (M : MR W ad d) (i : Nat) (hi : i < d.size) : EnAt W (ad.add (i * 4)) d[i]! := by
 have h : ∀ c, c < 4 -> W.cell? ⟨ad.block, i * 4 + c, none⟩ = some (encE d[i]!)[c]! := fun c hc => by
  have := (M.hk.cell hi hc).1
  rwa [Nat.zero_add] at this
 rw [M.ha, Addr.add_lit, Nat.zero_add]
 exact ⟨h 0 (by omega), by rw [Addr.add_lit]; exact h 1 (by omega), by rw [Addr.add_lit]; exact h 2 (by omega), by rw [Addr.add_lit]; exact h 3 (by omega)⟩
theorem MR.on {W W' : World} {ad : Addr} {d : Array En} (M : MR W ad d) (hb : Below W.heap.size W W') : MR W' ad d :=
 ⟨fun j hj => by rw [hb.cell (p := ⟨ad.block, 0 + j, none⟩) M.lt, hb.frozen (p := ⟨ad.block, 0 + j, none⟩) M.lt]; exact M.hk j hj, Nat.lt_of_lt_of_le M.lt hb.size, M.ha⟩
def Grew (w w' : World) : Prop := ∃ q os, w' = grow (w.drewN q) os
end
section
open Go.RowKit
attribute [local go_sem ↓] ld28_eq st28_eq ld26_eq
attribute [local go_sem] zero_EC cells_EV EC_size fold_EC
theorem run_eqD (x y : En) (w : World) : (Op.equalIn 10000 32 (.agg (DC x)) (.agg (DC y))).run Tryz.prog w = .ok (sameDot x y) w := by
 have u3 := Tryz.underlying3
 have a3 := Tryz.isAgg3
 have z3 := Tryz.sizeOf3
 have hS : Tryz.prog.underlying 32 = some (.struct (Tryz.prog.fieldsOf 32)) := by kernel_rfl
 have hp : Tryz.prog.stoodInHeld 32 = false := by kernel_rfl
 obtain ⟨a, b, _, _⟩ := x
 obtain ⟨c, d, _, _⟩ := y
 show (Op.equalIn 10000 32 (.agg #[.int .i64 a, .int .i64 b]) (.agg #[.int .i64 c, .int .i64 d])).run Tryz.prog w = .ok (a == c && b == d) w
 rw [show (10000 : Nat) = 9999 + 1 from rfl, run_equalIn_struct w 9999 32 _ _ hS hp]
 simp only [Program.fieldsOf, Tryz.underlying32]
 go_simp
 by_cases h1 : a = c <;> by_cases h2 : b = d <;> simp [h1, h2]
attribute [local go_sem ↓] run_eq28 run_eqD
def GivesT (w w' : World) (e : Ending) (L : List En) : Prop := ∃ ao n c R er, e = .returned (.tuple #[.slice ao n c, .int .i64 er]) /\ ESrc w' ao n c R /\ Below w.heap.size w w' /\ (∀ ad, ao = some ad -> w.heap.size <= ad.block) /\ Settled L R er
end
section
open Go.RowKit Go.Lib
attribute [local go_sem ↓] ld28_eq st28_eq run_eq28
attribute [local go_sem] zero_EC cells_EV EC_size
theorem add_add (p : Addr) (i j : Nat) : (p.add i).add j = p.add (i + j) := by
 unfold Addr.add; split <;> split <;> simp_all [Nat.add_assoc]
def cl22 (a : Value) : Sem Value := Builtin.clear_ #[22] 0 #[a]
theorem cl22_eq (a : Value) : Builtin.clear_ #[22] 0 #[a] = cl22 a := rfl
attribute [local go_sem ↓] cl22_eq
def CompOut (w w' : World) (e : Ending) (ad : Addr) (cap : Nat) (d : Array En) : Prop :=
 ∃ k d', e = .returned (.slice (some ad) k cap) /\ MR w' ad d' /\ k <= d.size /\ d'.size = d.size /\ d'.toList.take k = compactUpTo d d.size /\ Below ad.block w w'
end
section
open Go.RowKit Go.Lib

theorem asc_of_adj (C : List En) (h : ∀ i, i + 1 < C.length -> ahead (C.getD i en0) (C.getD (i + 1) en0) = true) : Asc C := by
 have key : ∀ k i, i + k + 1 < C.length -> ahead (C.getD i en0) (C.getD (i + k + 1) en0) = true := by
  intro k
  induction k with
  | zero => intro i hi; exact h i hi
  | succ k ih => intro i hi; exact ahead_trans (ih i (by omega)) (h (i + k + 1) (by omega))
 refine List.pairwise_iff_getElem.2 fun i j hi hj hij => ?_
 have := key (j - i - 1) i (by omega)
 rw [show i + (j - i - 1) + 1 = j by omega] at this
 simpa [List.getD, hi, hj] using this
def AdjN (C : List En) (k : Nat) : Prop := ∀ i, i + 1 < k -> sameDot (C.getD (i + 1) en0) (C.getD i en0) = false
end
end Go.Proofs.YtalpnhfoaohhhaaGreat.K
