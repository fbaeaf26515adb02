/- LPu LLtr LSrt LDd LShf LMr LOnc LCpt LCp LRis LSor LSo2 LShg LCct LUp LUn LSp BBx -/
import Derived.Below
import Derived.Test.YtalcmdjiejhkgaaGreatKl18
import Derived.Laws.MakeOwn
import Derived.Deep.CutRange
import Derived.Deep.LoopGhost
import Derived.Lib.SlicesCompact
import Derived.Shelf.SlSortCmp.WholeK
import Derived.Test.YtalcmdjiejhkgaaGreatProg
import Derived.Shelf.SlicesQ.Reverse
import Derived.Lib.OwnBridge
import Derived.Test.YtalcmdjiejhkgaaGreatKl24
import Derived.Shelf.SlSortCmp.NoneTotal
import Derived.Lib.SliceRun
import Derived.Laws.AppendOwnNone
import Derived.Test.YtalcmdjiejhkgaaGreatKl37
import Derived.Test.YtalcmdjiejhkgaaGreatKl40
namespace Go.Proofs.YtalcmdjiejhkgaaGreat.K
section


def Chunked {α : Type} (le : α -> α -> Prop) (w : Nat) (L : List α) : Prop := ∀ q, ((L.drop (q * w)).take w).Pairwise le
def mrg {α : Type} (le : α -> α -> Bool) (L : List α) (i mid j en : Nat) : List α := List.merge ((L.drop i).take (mid - i)) ((L.drop j).take (en - j)) le
structure Pass {α : Type} (le : α -> α -> Bool) (L M : List α) (n q f t : Nat) : Prop where
 hf : f = 2 * t * q
 hl : M.length = min f n
 hp : M.Perm (L.take f)
 hc : Chunked (fun x y => le x y = true) (2 * q) M
end
section
open Go.RowKit
attribute [local go_sem ↓] ld28_eq st28_eq ld26_eq
attribute [local go_sem] zero_EC cells_EV EC_size
def leE (x y : En) : Bool := !ahead y x
end
section
open Go.RowKit
attribute [local go_sem ↓] ld28_eq st28_eq
attribute [local go_sem] zero_EC cells_EV EC_size
attribute [local go_sem] fold_EC
def mk22 (a b : Value) : Sem Value := Instr.makeSlice 23 a b
theorem mk22_eq (a b : Value) : Instr.makeSlice 23 a b = mk22 a b := rfl
attribute [local go_sem ↓] mk22_eq
theorem made0 (w : World) (n : Nat) (hn : n <= 3518437208883) : ∃ w' : World, (mk22 (.int .i64 0) (.int .i64 (n : Int))).run Tryz.prog w = .ok (.slice (some ⟨w.heap.size, 0, none⟩) 0 n) w' /\ OwnE w.heap.size w.heap.size w w' (some ⟨w.heap.size, 0, none⟩) n [] := by
 obtain ⟨i0, hi, hz0, hz1, hz2⟩ := info_parts info28
 obtain ⟨w', h1, h2, h3⟩ := run_make_own (P := Tryz.prog) w w.heap.size 23 49 i0 _ 4 Tryz.underlying23 hi hz0 hz1 .i64 .i64 n (by rw [hz2]; omega) (by unfold maxLen; omega) (Nat.le_refl _)
 exact ⟨w', h1, h2, (Below.refl _ _).grown h3 (Nat.le_refl _) (fun k hk => by cases hk), h3.size, Nat.le_refl _⟩
def InOrder (L R : List En) : Prop := R.Perm L /\ R.Pairwise (fun x y => leE x y = true)
def GivesS (w w' : World) (e : Ending) (L : List En) : Prop := ∃ R, InOrder L R /\ GivesE w w' e R
end
section
open Go.RowKit

instance : DecidableEq En := fun a b =>
 decidable_of_iff (a.rep = b.rep /\ a.num = b.num /\ a.sku = b.sku /\ a.qty = b.qty) ⟨fun ⟨h1, h2, h3, h4⟩ => by cases a; cases b; simp_all, fun h => by subst h; exact ⟨rfl, rfl, rfl, rfl⟩⟩
instance : Inhabited En := ⟨en0⟩
def sameDot (x y : En) : Bool := x.rep == y.rep && x.num == y.num
theorem ahead_trans {x y z : En} (h : ahead x y = true) (h2 : ahead y z = true) : ahead x z = true := by
 simp [ahead] at *; omega
theorem ahead_same {x y : En} (h : ahead x y = true) : sameDot x y = false := by
 simp [ahead, sameDot] at *; omega
theorem same_symm {x y : En} : sameDot x y = sameDot y x := by
 simp [sameDot, Bool.beq_comm]
def Clash (L : List En) : Prop := ∃ x, x ∈ L /\ ∃ y, y ∈ L /\ sameDot x y = true /\ x ≠ y
def Asc (R : List En) : Prop := R.Pairwise (fun x y => ahead x y = true)
def Settled (L R : List En) (e : Int) : Prop := (Clash L /\ R = [] /\ e = 10) ∨ (¬ Clash L /\ e = 0 /\ Asc R /\ ∀ x, x ∈ R ↔ x ∈ L)
theorem asc_noclash {R L : List En} (h : Asc R) (hm : ∀ x, x ∈ R ↔ x ∈ L) : ¬ Clash L := by
 rintro ⟨x, hx, y, hy, hs, hne⟩
 have hx := (hm x).2 hx
 have hy := (hm y).2 hy
 clear hm
 induction R with
 | nil => simp at hx
 | cons a R ih =>
  obtain ⟨a1, a2⟩ := List.pairwise_cons.1 h
  rcases List.mem_cons.1 hx with e | e
  ·subst e
   rcases List.mem_cons.1 hy with e | e
   ·exact hne e.symm
   ·have := ahead_same (a1 y e); rw [hs] at this; cases this
  ·rcases List.mem_cons.1 hy with e' | e'
   ·subst e'
    have := ahead_same (a1 x e); rw [same_symm, hs] at this; cases this
   ·exact ih a2 e e'
def OnceInv (L : List En) (k : Nat) (acc : List En) : Prop := Asc acc /\ ∀ x, x ∈ acc ↔ x ∈ L.take k
end
end Go.Proofs.YtalcmdjiejhkgaaGreat.K
namespace Go.Proofs
end Go.Proofs
namespace Go.Proofs.YtalcmdjiejhkgaaGreat.K
section
open Go.RowKit Go.Sort

def encE (e : En) : List Value := (EC e).toList
structure MR (W : World) (ad : Addr) (d : Array En) : Prop where
 hk : HoldsK encE 4 W ad.block 0 d
 lt : ad.block < W.heap.size
 ha : ad = ⟨ad.block, 0, none⟩
theorem MR.at {W : World} {ad : Addr} {d : Array En} (M : MR W ad d) (i : Nat) (hi : i < d.size) : EnAt W (ad.add (i * 4)) d[i]! := by
 have h : ∀ c, c < 4 -> W.cell? ⟨ad.block, i * 4 + c, none⟩ = some (encE d[i]!)[c]! := fun c hc => by
  have := (M.hk.cell hi hc).1
  rwa [Nat.zero_add] at this
 rw [M.ha, Addr.add_lit, Nat.zero_add]
 exact ⟨h 0 (by omega), by rw [Addr.add_lit]; exact h 1 (by omega), by rw [Addr.add_lit]; exact h 2 (by omega), by rw [Addr.add_lit]; exact h 3 (by omega)⟩
def Grew (w w' : World) : Prop := ∃ q os, w' = grow (w.drewN q) os
end
section
open Go.RowKit
attribute [local go_sem ↓] ld28_eq st28_eq ld26_eq
attribute [local go_sem] zero_EC cells_EV EC_size fold_EC
theorem run_eqD (x y : En) (w : World) : (Op.equalIn 10000 47 (.agg (DC x)) (.agg (DC y))).run Tryz.prog w = .ok (sameDot x y) w := by
 have u3 := Tryz.underlying3
 have a3 := Tryz.isAgg3
 have z3 := Tryz.sizeOf3
 have hS : Tryz.prog.underlying 47 = some (.struct (Tryz.prog.fieldsOf 47)) := by kernel_rfl
 have hp : Tryz.prog.stoodInHeld 47 = false := by kernel_rfl
 obtain ⟨a, b, _, _⟩ := x
 obtain ⟨c, d, _, _⟩ := y
 show (Op.equalIn 10000 47 (.agg #[.int .i64 a, .int .i64 b]) (.agg #[.int .i64 c, .int .i64 d])).run Tryz.prog w = .ok (a == c && b == d) w
 rw [show (10000 : Nat) = 9999 + 1 from rfl, run_equalIn_struct w 9999 47 _ _ hS hp]
 simp only [Program.fieldsOf, Tryz.underlying47]
 go_simp
 by_cases h1 : a = c <;> by_cases h2 : b = d <;> simp [h1, h2]
attribute [local go_sem ↓] run_eq28 run_eqD
def GivesT (w w' : World) (e : Ending) (L : List En) : Prop := ∃ ao n c R er, e = .returned (.tuple #[.slice ao n c, .int .i64 er]) /\ ESrc w' ao n c R /\ Below w.heap.size w w' /\ (∀ ad, ao = some ad -> w.heap.size <= ad.block) /\ Settled L R er
end
section
open Go.RowKit Go.Lib
attribute [local go_sem ↓] ld28_eq st28_eq run_eq28
attribute [local go_sem] zero_EC cells_EV EC_size
theorem add_add (p : Addr) (i j : Nat) : (p.add i).add j = p.add (i + j) := by
 unfold Addr.add; split <;> split <;> simp_all [Nat.add_assoc]
def cl22 (a : Value) : Sem Value := Builtin.clear_ #[23] 0 #[a]
theorem cl22_eq (a : Value) : Builtin.clear_ #[23] 0 #[a] = cl22 a := rfl
attribute [local go_sem ↓] cl22_eq
def CompOut (w w' : World) (e : Ending) (ad : Addr) (cap : Nat) (d : Array En) : Prop :=
 ∃ k d', e = .returned (.slice (some ad) k cap) /\ MR w' ad d' /\ k <= d.size /\ d'.size = d.size /\ d'.toList.take k = compactUpTo d d.size /\ Below ad.block w w'
end
section
open Go.RowKit Go.Lib

theorem asc_of_adj (C : List En) (h : ∀ i, i + 1 < C.length -> ahead (C.getD i en0) (C.getD (i + 1) en0) = true) : Asc C := by
 have key : ∀ k i, i + k + 1 < C.length -> ahead (C.getD i en0) (C.getD (i + k + 1) en0) = true := by
  intro k
  induction k with
  | zero => intro i hi; exact h i hi
  | succ k ih => intro i hi; exact ahead_trans (ih i (by omega)) (h (i + k + 1) (by omega))
 refine List.pairwise_iff_getElem.2 fun i j hi hj hij => ?_
 have := key (j - i - 1) i (by omega)
 rw [show i + (j - i - 1) + 1 = j by omega] at this
 simpa [List.getD, hi, hj] using this
def AdjN (C : List En) (k : Nat) : Prop := ∀ i, i + 1 < k -> sameDot (C.getD (i + 1) en0) (C.getD i en0) = false
end
section
open Go.RowKit Go.Lib
attribute [local go_sem ↓] ld28_eq st28_eq ld26_eq run_eqD
attribute [local go_sem] zero_EC cells_EV EC_size
def GivesTB (B : Nat) (w w' : World) (e : Ending) (L : List En) : Prop := ∃ ao n c R er, e = .returned (.tuple #[.slice ao n c, .int .i64 er]) /\ ESrc w' ao n c R /\ Below B w w' /\ (∀ ad, ao = some ad -> B <= ad.block) /\ Settled L R er
end
section
open Go.RowKit Go.Lib
attribute [local go_sem ↓] ld28_eq st28_eq
attribute [local go_sem] zero_EC cells_EV EC_size
def firstE : List En -> Int
 | [] => 0
 | e :: r => if ceE e = 0 then firstE r else ceE e
def okTo (L : List En) (k : Nat) : Prop := ∀ i, i < k -> ceE (L.getD i en0) = 0
def Sorted (L R : List En) (er : Int) : Prop := (firstE L ≠ 0 /\ R = [] /\ er = firstE L) ∨ (firstE L = 0 /\ Settled L R er)
def GivesQ (w w' : World) (e : Ending) (L : List En) : Prop := ∃ ao n c R er, e = .returned (.tuple #[.slice ao n c, .int .i64 er]) /\ ESrc w' ao n c R /\ Below w.heap.size w w' /\ (∀ ad, ao = some ad -> w.heap.size <= ad.block) /\ Sorted L R er
theorem ESrc.cells {w : World} {ad : Addr} {n cap : Nat} {L : List En} (hS : ESrc w (some ad) n cap L) (j : Nat) (u : Value) (hj : (ecs L)[j]? = some u) : w.cell? (ad.add j) = some u := by
 have hjl : j < L.length * 4 := by have := (List.getElem?_eq_some_iff.1 hj).1; rwa [ecs_length] at this
 have e4 := ecs_at L (j / 4) (j % 4) (by omega) (by omega)
 rw [show j / 4 * 4 + j % 4 = j by omega, hj] at e4
 have A := hS.2.2.1 ad rfl (j / 4) (by rw [<- hS.1]; omega)
 have : j % 4 = 0 ∨ j % 4 = 1 ∨ j % 4 = 2 ∨ j % 4 = 3 := by omega
 rcases this with h | h | h | h
 ·rw [h] at e4; rw [show j = j / 4 * 4 by omega, A.c0]; exact e4.symm
 ·rw [h] at e4; have := A.c1; rw [add_add] at this; rw [show j = j / 4 * 4 + 1 by omega, this]; exact e4.symm
 ·rw [h] at e4; have := A.c2; rw [add_add] at this; rw [show j = j / 4 * 4 + 2 by omega, this]; exact e4.symm
 ·rw [h] at e4; have := A.c3; rw [add_add] at this; rw [show j = j / 4 * 4 + 3 by omega, this]; exact e4.symm
theorem ecs_onecell (L : List En) : ∀ u ∈ ecs L, u.oneCell' = true := by
 intro u hu
 obtain ⟨l, hl, hv⟩ := List.mem_flatten.1 hu
 obtain ⟨e, _, rfl⟩ := List.mem_map.1 hl
 exact EC_one e u hv
theorem clone_any (ad : Addr) (n cap : Nat) (L : List En) (w : World) (hS : ESrc w (some ad) n cap L) :
  Calls Tryz.prog 48 #[.slice (some ad) n cap] w fun e w' => ∃ ao c, e = .returned (.slice ao n c) /\ OwnE w.heap.size w.heap.size w w' ao c L := by
 obtain ⟨i0, hi, hz0, hz1, hz2⟩ := info_parts info28
 have q22 : ∀ w, (binOp .eql 23 (.slice (some ad) n cap) (.slice none 0 0)).run Tryz.prog w = .ok (.bool false) w := fun w => Lib.run_eql_slice_nil w _ _ (some ad) n cap 0 0 Tryz.underlying23
 have HS := hide hS
 clear hS
 go_enter Tryz.func48, Tryz.ntmps48
 go_wp2_with (at_builtin; refine wpList_append_own _ rfl _ _ 23 rfl w.heap.size 49 i0 (.agg #[.int .i64 0, .int .i64 0, .string ⟨#[]⟩, .int .i64 0]) 4 40 Tryz.underlying23 hi hz0 hz1 hz2 rfl (by decide) _ _ _ rfl (World.ownsRow_made w #[] 0 (Nat.le_refl _) (Nat.zero_le _) (by simp)) ad n cap (ecs L) rfl ?qc1 ?qc2 ?qc3 ?qc4 ?qc5 ?qc6 ?_)
 case qc1 => rw [ecs_length, HS.out.1]
 case qc2 =>
  intro j u hj
  have := HS.out.cells j u hj
  rw [(below_new w _).cell (World.block_lt_of_cell? _ _ this)]
  exact this
 case qc3 => exact ecs_onecell L
 case qc4 => rw [Nat.zero_add]; unfold maxLen; have := HS.out.2.2.2.2; omega
 case qc5 => rw [Nat.zero_add]; have := HS.out.2.2.2.2; omega
 case qc6 => simp
 intro v' w1 hown hgrow hnil
 have hown' : w1.ownsRow w.heap.size 49 4 v' n (ecs L) := by simpa using hown
 have hb : Below w.heap.size w w1 := ((Below.refl _ w).alloc (Nat.le_refl _) _).grown hgrow (by simp) (by intro k hk; simp [Value.ownBlock] at hk; omega)
 have HF : Hid (∃ ao c, v' = .slice ao n c /\ OwnE w.heap.size w.heap.size w w1 ao c L) := by
  rcases hown'.2 with ⟨h0, _⟩ | ⟨g, c, cur, rfl, r⟩
  ·exact absurd h0 hnil
  ·exact ⟨some ⟨g, 0, none⟩, c, rfl, by rw [HS.out.1]; exact hown', hb, hb.size, Nat.le_refl _⟩
 clear hown hown' hgrow hnil hb
 go_wp2_with fail
 go_ret
 obtain ⟨ao, c, rfl, h⟩ := HF.out
 exact ⟨ao, c, rfl, h⟩
theorem clone_nil (w : World) : Calls Tryz.prog 48 #[.slice none 0 0] w fun e w' => e = .returned (.slice none 0 0) /\ w' = w := by
 have q22 : ∀ w, (binOp .eql 23 (.slice none 0 0) (.slice none 0 0)).run Tryz.prog w = .ok (.bool true) w := fun w => Lib.run_eql_slice_nil w _ _ none 0 0 0 0 Tryz.underlying23
 go_enter Tryz.func48, Tryz.ntmps48
 go_wp2_with fail
 go_ret
 exact ⟨rfl, rfl⟩
end
section
open Go.RowKit Go.Lib
attribute [local go_sem ↓] ld28_eq st28_eq
attribute [local go_sem] zero_EC cells_EV EC_size
end
end Go.Proofs.YtalcmdjiejhkgaaGreat.K
namespace Go.Proofs
end Go.Proofs
namespace Go.Proofs.YtalcmdjiejhkgaaGreat.K
section
open Go.RowKit Go.Lib

end
section
open Go.RowKit

def code (e : En) : Int := e.rep * 1000000000 + e.num
theorem okN_at (L : List En) (n : Nat) (h : okN L n = true) (k : Nat) (hk : k < n) : okAt L k = true := by
 unfold okN at h
 exact List.all_eq_true.1 h k (List.mem_range.2 hk)
theorem chk_zero {L : List En} (h : chk L = 0) : okN L L.length = true := by
 unfold chk at h
 by_cases e : okN L L.length = true
 ·exact e
 ·rw [if_neg e] at h; omega
end
section
open Go.RowKit Go.Lib
attribute [local go_sem ↓] ld28_eq st28_eq
attribute [local go_sem] zero_EC cells_EV EC_size fold_EC
def UnionOf (A B R : List En) (er : Int) : Prop := (¬ (chk A = 0 /\ chk B = 0) /\ R = [] /\ er = 1) ∨ ((chk A = 0 /\ chk B = 0) /\ Settled (A ++ B) R er)
def GivesU (w w' : World) (e : Ending) (A B : List En) : Prop := ∃ ao n c R er, e = .returned (.tuple #[.slice ao n c, .int .i64 er]) /\ ESrc w' ao n c R /\ Below w.heap.size w w' /\ UnionOf A B R er
def GivesUN (w w' : World) (e : Ending) (A B : List En) : Prop := ∃ ao n c R er, e = .returned (.tuple #[.slice ao n c, .int .i64 er]) /\ ESrc w' ao n c R /\ Below w.heap.size w w' /\ (∀ ad, ao = some ad -> w.heap.size <= ad.block) /\ UnionOf A B R er
end
section
open Go.RowKit

theorem chk_asc' {R : List En} (h : chk R = 0) : Asc R := by
 refine asc_of_adj R (fun i hi => ?_)
 have := okN_at R _ (chk_zero h) (i + 1) hi
 unfold okAt at this
 rw [Bool.and_eq_true] at this
 simpa using this.2
end
end Go.Proofs.YtalcmdjiejhkgaaGreat.K
namespace Go.Proofs.YtalcmdjiejhkgaaGreat
open Go.RowKit
theorem chk_ce {L : List K.En} (h : K.chk L = 0) : ∀ e ∈ L, K.ceE e = 0 := fun e he => by
 obtain ⟨k, hk, rfl⟩ := List.getElem_of_mem he
 have h1 := K.okN_at L _ (K.chk_zero h) k hk
 unfold K.okAt at h1
 rw [Bool.and_eq_true] at h1
 have e1 : L.getD k K.en0 = L[k] := by simp [List.getD, List.getElem?_eq_getElem hk]
 rw [e1] at h1
 simpa using h1.1
theorem ce_dot {e : K.En} (h : K.ceE e = 0) : okD (dotOf e) = true := by
 unfold K.ceE at h
 by_cases h1 : K.isR e.rep = false
 ·rw [if_pos h1] at h; cases h
 ·rw [if_neg h1] at h
  by_cases h2 : e.num < 1 ∨ 1000000000 < e.num
  ·rw [if_pos h2] at h; cases h
  ·have h3 : K.isR e.rep = true := by simpa using h1
   unfold okD dotOf V.isR
   unfold K.isR at h3
   simp only [Bool.and_eq_true, decide_eq_true_eq] at h3 ⊢
   exact ⟨h3, by omega, by omega⟩
theorem dot_one {L : List K.En} (h : K.chk L = 0) {x y : K.En} (hx : x ∈ L) (hy : y ∈ L) (e : dotOf x = dotOf y) : x = y := by
 apply Classical.byContradiction
 intro hn
 refine K.asc_noclash (K.chk_asc' h) (fun _ => Iff.rfl) ⟨x, hx, y, hy, ?_, hn⟩
 unfold dotOf at e
 simp only [Rn.mk.injEq] at e
 simp [K.sameDot, e.1, e.2]
theorem ce_sku {e : K.En} (h : K.ceE e = 0) : ¬ e.sku.size = 0 := by
 intro h0
 have hn : e.sku.data.toList = [] := by
  apply List.eq_nil_of_length_eq_zero
  rw [K.len_at]; exact h0
 unfold K.ceE at h
 by_cases h1 : K.isR e.rep = false
 ·rw [if_pos h1] at h; cases h
 ·rw [if_neg h1] at h
  by_cases h2 : e.num < 1 ∨ 1000000000 < e.num
  ·rw [if_pos h2] at h; cases h
  ·rw [if_neg h2, hn] at h
   have hg : K.good ([] : List UInt8) = false := by decide
   simp [hg] at h
def BX (L : List K.En) (F : List Rc) (X : List Pv) : Prop := (∀ r : Nat, r < 16 -> ∀ m, (∃ p ∈ X, mem (runsAt p.P r) m) ↔ ∃ f ∈ F, mem (dotsG (dotsS L f.s) r) m /\ mem (runsAt f.p.P r) m) /\ wt X <= F.length * (L.length + 1)
theorem BX.nil (L : List K.En) : BX L [] [] := ⟨fun r _ m => by simp, Nat.zero_le _⟩
theorem BX.snoc {L : List K.En} {F : List Rc} {X : List Pv} (h : BX L F X) {f : Rc} {D : Pst} {p : Pv} (hD : CanonOf (dotsG (dotsS L f.s)) D) (hm : ∃ C : Nat -> List Rn, (∀ r, r < 16 -> MeetOf (runsAt D r) (runsAt f.p.P r) (C r)) /\ CanonOf C p.P) : BX L (F ++ [f]) (X ++ [p]) := by
 obtain ⟨C, hC, hP⟩ := hm
 have key : ∀ r : Nat, r < 16 -> ∀ m, mem (C r) m ↔ mem (dotsG (dotsS L f.s) r) m /\ mem (runsAt f.p.P r) m := fun r hr m => by rw [(hC r hr).2 m, canon_mem hD r hr m]
 refine ⟨fun r hr m => ?_, ?_⟩
 ·constructor
  ·rintro ⟨q, hq, hm⟩
   rcases List.mem_append.1 hq with hq | hq
   ·obtain ⟨g, hg, h1⟩ := (h.1 r hr m).1 ⟨q, hq, hm⟩
    exact ⟨g, List.mem_append_left _ hg, h1⟩
   ·obtain rfl : q = p := by simpa using hq
    rw [canon_mem hP r hr m, key r hr m] at hm
    exact ⟨f, by simp, hm⟩
  ·rintro ⟨g, hg, h1⟩
   rcases List.mem_append.1 hg with hg | hg
   ·obtain ⟨q, hq, h2⟩ := (h.1 r hr m).2 ⟨g, hg, h1⟩
    exact ⟨q, List.mem_append_left _ hq, h2⟩
   ·obtain rfl : g = f := by simpa using hg
    exact ⟨p, by simp, by rw [canon_mem hP r hr m, key r hr m]; exact h1⟩
 ·have h1 : p.P.cloud.length <= (dotsS L f.s).length := canon_count hP _ (fun r hr n hn => by
   obtain ⟨d, hd, -, e1, e2⟩ := (dotsG_mem _ _ _).1 ((key r hr n).1 hn).1
   have : d = ⟨(r : Int), n⟩ := by cases d; simp_all
   rw [<- this]; exact hd)
  have h2 := dotsS_len L f.s
  have h3 := h.2
  rw [wt_append, List.length_append]
  simp only [wt, List.length_cons, List.length_nil]
  rw [Nat.add_mul]
  omega
theorem sku_eq {a b : ByteArray} (h : (a.toList == b.toList) = true) : a = b := by
 rw [beq_iff_eq, ByteArray.toList_eq, ByteArray.toList_eq] at h
 cases a; cases b
 simp at h
 rw [h]
theorem sku_refl (a : ByteArray) : (a.toList == a.toList) = true := by simp
theorem nilF_of {s : ByteArray} (h : s.size = 0) : s = nilF := by
 obtain ⟨d⟩ := s
 have : d = #[] := Array.eq_empty_of_size_eq_zero h
 rw [this]; rfl
theorem cov_iff {e : K.En} (he : okD (dotOf e) = true) (r : Rc) : covB r e = true ↔ (r.s = nilF ∨ r.s = e.sku) /\ mem (runsAt r.p.P e.rep.toNat) e.num := by
 unfold covB
 rw [Bool.and_eq_true, inB_iff, Bool.or_eq_true, decide_eq_true_eq]
 have h1 : V.isR e.rep = true := by
  unfold okD dotOf at he
  simp only [Bool.and_eq_true] at he
  exact he.1
 constructor
 ·rintro ⟨h2, h3⟩
  refine ⟨h2.elim (fun h => .inl (nilF_of h)) (fun h => .inr (sku_eq h)), h3.2⟩
 ·rintro ⟨h2, h3⟩
  refine ⟨h2.elim (fun h => .inl (by rw [h]; rfl)) (fun h => .inr (by rw [h]; exact sku_refl _)), h1, h3⟩
theorem free_of {L : List K.En} {R F : List Rc} (hc : K.chk L = 0) (hF : FoldOf R F) {X : List Pv} (hX : BX L F X) {P : Pst} (hP : CanonOf (runsOf X) P) : L.filter (pkB P false) = L.filter (freeB R) := by
 apply List.filter_congr
 intro e he
 have hd := ce_dot (chk_ce hc e he)
 have hs := ce_sku (chk_ce hc e he)
 have hR : V.isR e.rep = true := by
  have h := hd
  unfold okD dotOf at h
  simp only [Bool.and_eq_true] at h
  exact h.1
 have hr : 0 <= e.rep /\ e.rep < 16 := by simpa [V.isR] using hR
 have hrn : e.rep.toNat < 16 := by omega
 have hdot : ∀ s : ByteArray, mem (dotsG (dotsS L s) e.rep.toNat) e.num ↔ (s = nilF ∨ s = e.sku) := fun s => by
  rw [dotsG_mem]
  unfold dotsS
  constructor
  ·rintro ⟨d, hd1, -, h1, h2⟩
   obtain ⟨x, hx, rfl⟩ := List.mem_map.1 hd1
   obtain ⟨hx1, hx2⟩ := List.mem_filter.1 hx
   have ed : dotOf x = dotOf e := by
    unfold dotOf at h1 h2 ⊢
    simp only at h1 h2
    congr 1
    omega
   have := dot_one hc hx1 he ed
   subst this
   rw [Bool.or_eq_true, decide_eq_true_eq, decide_eq_true_eq] at hx2
   exact hx2.elim (fun h => .inl (nilF_of h)) (fun h => .inr h.symm)
  ·intro h
   refine ⟨dotOf e, List.mem_map.2 ⟨e, List.mem_filter.2 ⟨he, ?_⟩, rfl⟩, hd, by unfold dotOf; simp only; omega, rfl⟩
   rw [Bool.or_eq_true, decide_eq_true_eq, decide_eq_true_eq]
   exact h.elim (fun h => .inl (by rw [h]; rfl)) (fun h => .inr h.symm)
 have hin : inB P e = true ↔ ∃ f ∈ F, (f.s = nilF ∨ f.s = e.sku) /\ FoldM R f.s e.rep.toNat e.num := by
  rw [inB_iff]
  unfold dotIn
  simp only [hR, true_and]
  rw [canon_mem hP _ hrn, runsOf_mem, hX.1 _ hrn]
  constructor
  ·rintro ⟨f, hf, h1, h2⟩
   refine ⟨f, hf, (hdot f.s).1 h1, ?_⟩
   obtain ⟨C, hC, hI⟩ := (hF.2.1 f hf).2.1
   exact (hI _ hrn _).1 ((canon_mem hC _ hrn _).1 h2)
  ·rintro ⟨f, hf, h1, h2⟩
   refine ⟨f, hf, (hdot f.s).2 h1, ?_⟩
   obtain ⟨C, hC, hI⟩ := (hF.2.1 f hf).2.1
   exact (canon_mem hC _ hrn _).2 ((hI _ hrn _).2 h2)
 have hin2 : inB P e = true ↔ R.any (fun r => covB r e) = true := by
  rw [hin, List.any_eq_true]
  constructor
  ·rintro ⟨f, hf, h1, ⟨x, hx, hxs, hm⟩, -⟩
   exact ⟨x, hx, (cov_iff hd x).2 ⟨by rw [hxs]; exact h1, hm⟩⟩
  ·rintro ⟨r, hr1, hcv⟩
   obtain ⟨h1, h2⟩ := (cov_iff hd r).1 hcv
   have step : ∀ s, (s = nilF ∨ s = e.sku) -> FoldM R s e.rep.toNat e.num -> ∃ f ∈ F, (f.s = nilF ∨ f.s = e.sku) /\ FoldM R f.s e.rep.toNat e.num := fun s hs1 hM => by
    obtain ⟨x, hx, hxs, -⟩ := hM.1
    apply Classical.byContradiction
    intro hn
    refine hF.2.2 s ⟨x, hx, hxs⟩ (fun f hf hfs => hn ⟨f, hf, by rw [hfs]; exact hs1, by rw [hfs]; exact hM⟩) _ hrn _ hM
   by_cases hz : ∃ x ∈ R, x.s = nilF /\ mem (runsAt x.p.P e.rep.toNat) e.num
   ·exact step nilF (.inl rfl) ⟨hz, fun h => absurd rfl h⟩
   ·rcases h1 with h1 | h1
    ·exact absurd ⟨r, hr1, h1, h2⟩ hz
    ·exact step e.sku (.inr rfl) ⟨⟨r, hr1, h1, h2⟩, fun _ => hz⟩
 unfold pkB freeB
 cases h1 : inB P e <;> cases h2 : R.any (fun r => covB r e)
 ·rfl
 ·rw [h1, h2] at hin2; exact absurd (hin2.2 rfl) (by decide)
 ·rw [h1, h2] at hin2; exact absurd (hin2.1 rfl) (by decide)
 ·rfl
theorem free_nil {L : List K.En} {R : List Rc} (hc : K.chk L = 0) (hF : FoldOf R []) : L.filter (freeB R) = L := by
 have h := free_of hc hF (BX.nil L) (P := pv0.P) ⟨fun _ => [], fun _ _ => ⟨trivial, fun _ => Iff.rfl⟩, by decide⟩
 rw [<- h]
 apply List.filter_eq_self.2
 intro e _
 have : inB pv0.P e = false := by
  cases hb : inB pv0.P e
  ·rfl
  ·rw [inB_iff] at hb
   unfold dotIn at hb
   obtain ⟨h1, h2⟩ := hb
   exact absurd h2 (by unfold runsAt pv0; simp [vecPart, cloudPart, V.at', mem, V.clamp])
 unfold pkB
 rw [this]
 rfl
end Go.Proofs.YtalcmdjiejhkgaaGreat
