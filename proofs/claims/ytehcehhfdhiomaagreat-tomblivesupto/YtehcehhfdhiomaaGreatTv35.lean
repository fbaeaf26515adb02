/- LLtr LSrt LDd LShf LMr LOnc -/
import Derived.Test.YtehcehhfdhiomaaGreatTv23
import Derived.Test.YtehcehhfdhiomaaGreatTv34
import Derived.Laws.MakeOwn
import Derived.Deep.CutRange
import Derived.Deep.LoopGhost
import Derived.Lib.SlicesCompact
import Derived.Shelf.SlSortCmp.WholeK
import Derived.Test.YtehcehhfdhiomaaGreatProg
import Derived.Shelf.SlicesQ.Reverse
import Derived.Lib.OwnBridge
import Derived.Test.YtehcehhfdhiomaaGreatTv29
namespace Go.Proofs.YtehcehhfdhiomaaGreat.K
open Go.RowKit
attribute [local go_sem ↓] ld28_eq st28_eq ld26_eq
attribute [local go_sem] zero_EC cells_EV EC_size
def leE (x y : En) : Bool := !ahead y x
end Go.Proofs.YtehcehhfdhiomaaGreat.K
namespace Go.Proofs.YtehcehhfdhiomaaGreat.K
open Go.RowKit
attribute [local go_sem ↓] ld28_eq st28_eq
attribute [local go_sem] zero_EC cells_EV EC_size
attribute [local go_sem] fold_EC
def mk22 (a b : Value) : Sem Value := Instr.makeSlice 22 a b
theorem mk22_eq (a b : Value) : Instr.makeSlice 22 a b = mk22 a b := rfl
attribute [local go_sem ↓] mk22_eq
def InOrder (L R : List En) : Prop := R.Perm L ∧ R.Pairwise (fun x y => leE x y = true)
def GivesS (w w' : World) (e : Ending) (L : List En) : Prop := ∃ R, InOrder L R ∧ GivesE w w' e R
end Go.Proofs.YtehcehhfdhiomaaGreat.K
namespace Go.Proofs.YtehcehhfdhiomaaGreat.K
open Go.RowKit

instance : DecidableEq En := fun a b =>
 decidable_of_iff (a.rep = b.rep ∧ a.num = b.num ∧ a.sku = b.sku ∧ a.qty = b.qty) ⟨fun ⟨h1, h2, h3, h4⟩ => by cases a; cases b; simp_all, fun h => by subst h; exact ⟨rfl, rfl, rfl, rfl⟩⟩
instance : Inhabited En := ⟨en0⟩
def sameDot (x y : En) : Bool := x.rep == y.rep && x.num == y.num
theorem ahead_of {x y : En} (h : leE x y = true) (hs : sameDot y x = false) : ahead x y = true := by
 simp [leE, ahead, sameDot] at *; omega
theorem ahead_trans {x y z : En} (h : ahead x y = true) (h2 : ahead y z = true) : ahead x z = true := by
 simp [ahead] at *; omega
theorem ahead_irr (x : En) : ahead x x = false := by simp [ahead]
theorem ahead_asymm {x y : En} (h : ahead x y = true) : ahead y x = false := by
 simp [ahead] at *; omega
theorem ahead_same {x y : En} (h : ahead x y = true) : sameDot x y = false := by
 simp [ahead, sameDot] at *; omega
theorem same_symm {x y : En} : sameDot x y = sameDot y x := by
 simp [sameDot, Bool.beq_comm]
def Clash (L : List En) : Prop := ∃ x, x ∈ L ∧ ∃ y, y ∈ L ∧ sameDot x y = true ∧ x ≠ y
def Asc (R : List En) : Prop := R.Pairwise (fun x y => ahead x y = true)
def Settled (L R : List En) (e : Int) : Prop := (Clash L ∧ R = [] ∧ e = 10) ∨ (¬ Clash L ∧ e = 0 ∧ Asc R ∧ ∀ x, x ∈ R ↔ x ∈ L)
theorem asc_unique : ∀ {R R' : List En}, Asc R → Asc R' → (∀ x, x ∈ R ↔ x ∈ R') → R = R'
 | [], [], _, _, _ => rfl
 | [], b :: _, _, _, h => absurd ((h b).2 (List.mem_cons_self ..)) (by simp)
 | a :: _, [], _, _, h => absurd ((h a).1 (List.mem_cons_self ..)) (by simp)
 | a :: R, b :: R', h1, h2, h => by
  obtain ⟨a1, a2⟩ := List.pairwise_cons.1 h1
  obtain ⟨b1, b2⟩ := List.pairwise_cons.1 h2
  have e : a = b := by
   rcases List.mem_cons.1 ((h a).1 (List.mem_cons_self ..)) with e | e
   ·exact e
   ·rcases List.mem_cons.1 ((h b).2 (List.mem_cons_self ..)) with e' | e'
    ·exact e'.symm
    ·have := ahead_asymm (a1 b e'); rw [b1 a e] at this; cases this
  subst e
  rw [asc_unique a2 b2 (fun x => ?_)]
  have hx := h x
  simp only [List.mem_cons] at hx
  constructor
  ·intro hm
   rcases hx.1 (Or.inr hm) with e | e
   ·subst e; have := a1 x hm; rw [ahead_irr] at this; cases this
   ·exact e
  ·intro hm
   rcases hx.2 (Or.inr hm) with e | e
   ·subst e; have := b1 x hm; rw [ahead_irr] at this; cases this
   ·exact e
theorem asc_noclash {R L : List En} (h : Asc R) (hm : ∀ x, x ∈ R ↔ x ∈ L) : ¬ Clash L := by
 rintro ⟨x, hx, y, hy, hs, hne⟩
 have hx := (hm x).2 hx
 have hy := (hm y).2 hy
 clear hm
 induction R with
 | nil => simp at hx
 | cons a R ih =>
  obtain ⟨a1, a2⟩ := List.pairwise_cons.1 h
  rcases List.mem_cons.1 hx with e | e
  ·subst e
   rcases List.mem_cons.1 hy with e | e
   ·exact hne e.symm
   ·have := ahead_same (a1 y e); rw [hs] at this; cases this
  ·rcases List.mem_cons.1 hy with e' | e'
   ·subst e'
    have := ahead_same (a1 x e); rw [same_symm, hs] at this; cases this
   ·exact ih a2 e e'
theorem Clash.perm {L R : List En} (h : Clash L) (hm : ∀ x, x ∈ L ↔ x ∈ R) : Clash R := by
 obtain ⟨x, hx, y, hy, r⟩ := h
 exact ⟨x, (hm x).1 hx, y, (hm y).1 hy, r⟩
theorem Settled.perm {L L' R : List En} {e : Int} (h : Settled L R e) (hm : ∀ x, x ∈ L ↔ x ∈ L') : Settled L' R e := by
 rcases h with ⟨c, r, e1⟩ | ⟨c, e1, a, m⟩
 ·exact Or.inl ⟨c.perm hm, r, e1⟩
 ·exact Or.inr ⟨fun c' => c (c'.perm (fun x => (hm x).symm)), e1, a, fun x => (m x).trans (hm x)⟩

def OnceInv (L : List En) (k : Nat) (acc : List En) : Prop := Asc acc ∧ ∀ x, x ∈ acc ↔ x ∈ L.take k
theorem le_at {L : List En} (hL : L.Pairwise (fun x y => leE x y = true)) (i j : Nat) (hij : i < j) (hj : j < L.length) : leE (L.getD i en0) (L.getD j en0) = true := by
 have := List.pairwise_iff_getElem.1 hL i j (by omega) hj hij
 simpa [List.getD, hj, show i < L.length by omega] using this
theorem getD_mem (L : List En) (k : Nat) (h : k < L.length) : L.getD k en0 ∈ L := by
 have : L.getD k en0 = L[k] := by simp [List.getD, h]
 rw [this]; exact List.getElem_mem _
end Go.Proofs.YtehcehhfdhiomaaGreat.K
namespace Go.Proofs
open Go.Shelf
def Tryz.sortEn_ren : Go.Shelf.Ren := ⟨fun | 6 => 100 | 15 => 129 | 14 => 132 | 28 => 154 | 29 => 155 | 20 => 156 | 21 => 157 | 22 => 158 | 23 => 159 | 24 => 160 | 25 => 161 | 26 => 162 | 27 => 163 | 46 => 186 | 47 => 182 | 48 => 183 | 49 => 187 | 50 => 188 | 57 => 202 | n => n, fun | 22 => 22 | 24 => 48 | 25 => 77 | 3 => 3 | 39 => 159 | 0 => 0 | 53 => 180 | 55 => 182 | 4 => 4 | 46 => 174 | 45 => 173 | 50 => 152 | 5 => 5 | 9 => 9 | 66 => 197 | 70 => 201 | 76 => 212 | 77 => 140 | n => n, fun | n => n⟩
theorem Tryz.sortEn : Go.Proofs.SlLaysF0.n6 Tryz.prog Tryz.sortEn_ren := {
 mixed := by kernel_rfl
 f6 := ⟨Tryz.f100.name, by decide, Tryz.func100.trans (congrArg some (by kernel_rfl))⟩
 f14 := ⟨Tryz.f132.name, by decide, Tryz.func132.trans (congrArg some (by kernel_rfl))⟩
 f15 := Tryz.func129.trans (congrArg some (by kernel_rfl))
 f20 := ⟨Tryz.f156.name, by decide, Tryz.func156.trans (congrArg some (by kernel_rfl))⟩
 f21 := ⟨Tryz.f157.name, by decide, Tryz.func157.trans (congrArg some (by kernel_rfl))⟩
 f22 := ⟨Tryz.f158.name, by decide, Tryz.func158.trans (congrArg some (by kernel_rfl))⟩
 f23 := ⟨Tryz.f159.name, by decide, Tryz.func159.trans (congrArg some (by kernel_rfl))⟩
 f24 := ⟨Tryz.f160.name, by decide, Tryz.func160.trans (congrArg some (by kernel_rfl))⟩
 f25 := ⟨Tryz.f161.name, by decide, Tryz.func161.trans (congrArg some (by kernel_rfl))⟩
 f26 := ⟨Tryz.f162.name, by decide, Tryz.func162.trans (congrArg some (by kernel_rfl))⟩
 f27 := ⟨Tryz.f163.name, by decide, Tryz.func163.trans (congrArg some (by kernel_rfl))⟩
 f28 := Tryz.func154.trans (congrArg some (by kernel_rfl))
 f29 := Tryz.func155.trans (congrArg some (by kernel_rfl))
 f46 := ⟨Tryz.f186.name, by decide, Tryz.func186.trans (congrArg some (by kernel_rfl))⟩
 f47 := Tryz.func182.trans (congrArg some (by kernel_rfl))
 f48 := Tryz.func183.trans (congrArg some (by kernel_rfl))
 f49 := ⟨Tryz.f187.name, by decide, Tryz.func187.trans (congrArg some (by kernel_rfl))⟩
 f50 := ⟨Tryz.f188.name, by decide, Tryz.func188.trans (congrArg some (by kernel_rfl))⟩
 f57 := ⟨Tryz.f202.name, by decide, Tryz.func202.trans (congrArg some (by kernel_rfl))⟩
 t0 := Tryz.underlying0
 a0 := Tryz.isAgg0
 z0 := Tryz.sizeOf0
 v0 := Tryz.zeroValue0
 t3 := Tryz.underlying3
 a3 := Tryz.isAgg3
 z3 := Tryz.sizeOf3
 v3 := Tryz.zeroValue3
 t4 := Tryz.underlying4
 a4 := Tryz.isAgg4
 z4 := Tryz.sizeOf4
 v4 := Tryz.zeroValue4
 t5 := Tryz.underlying5
 a5 := Tryz.isAgg5
 z5 := Tryz.sizeOf5
 v5 := Tryz.zeroValue5
 t9 := Tryz.underlying9
 a9 := Tryz.isAgg9
 z9 := Tryz.sizeOf9
 v9 := Tryz.zeroValue9
 t22 := Tryz.underlying22
 a22 := Tryz.isAgg22
 z22 := Tryz.sizeOf22
 v22 := Tryz.zeroValue22
 t25 := Tryz.underlying77
 a25 := Tryz.isAgg77
 z25 := Tryz.sizeOf77
 v25 := Tryz.zeroValue77
 t39 := Tryz.underlying159
 a39 := Tryz.isAgg159
 z39 := Tryz.sizeOf159
 v39 := Tryz.zeroValue159
 t45 := Tryz.underlying173
 a45 := Tryz.isAgg173
 z45 := Tryz.sizeOf173
 v45 := Tryz.zeroValue173
 t46 := Tryz.underlying174
 a46 := Tryz.isAgg174
 z46 := Tryz.sizeOf174
 v46 := Tryz.zeroValue174
 t50 := Tryz.underlying152
 a50 := Tryz.isAgg152
 z50 := Tryz.sizeOf152
 v50 := Tryz.zeroValue152
 t53 := Tryz.underlying180
 a53 := Tryz.isAgg180
 z53 := Tryz.sizeOf180
 v53 := Tryz.zeroValue180
 t55 := Tryz.underlying182
 a55 := Tryz.isAgg182
 z55 := Tryz.sizeOf182
 v55 := Tryz.zeroValue182
 t66 := Tryz.underlying197
 a66 := Tryz.isAgg197
 z66 := Tryz.sizeOf197
 v66 := Tryz.zeroValue197
 t70 := Tryz.underlying201
 a70 := Tryz.isAgg201
 z70 := Tryz.sizeOf201
 v70 := Tryz.zeroValue201
 t76 := Tryz.underlying212
 a76 := Tryz.isAgg212
 z76 := Tryz.sizeOf212
 v76 := Tryz.zeroValue212
 t77 := Tryz.underlying140
 a77 := Tryz.isAgg140
 z77 := Tryz.sizeOf140
 v77 := Tryz.zeroValue140 }
end Go.Proofs
namespace Go.Proofs.YtehcehhfdhiomaaGreat.K
open Go.RowKit Go.Sort

def encE (e : En) : List Value := (EC e).toList
theorem encE_len (e : En) : (encE e).length = 4 := rfl
structure MR (W : World) (ad : Addr) (d : Array En) : Prop where
 hk : HoldsK encE 4 W ad.block 0 d
 lt : ad.block < W.heap.size
 ha : ad = ⟨ad.block, 0, none⟩
theorem MR.at {W : World} {ad : Addr} {d : Array En} (M : MR W ad d) (i : Nat) (hi : i < d.size) : EnAt W (ad.add (i * 4)) d[i]! := by
 have h : ∀ c, c < 4 → W.cell? ⟨ad.block, i * 4 + c, none⟩ = some (encE d[i]!)[c]! := fun c hc => by
  have := (M.hk.cell hi hc).1
  rwa [Nat.zero_add] at this
 rw [M.ha, Addr.add_lit, Nat.zero_add]
 exact ⟨h 0 (by omega), by rw [Addr.add_lit]; exact h 1 (by omega), by rw [Addr.add_lit]; exact h 2 (by omega), by rw [Addr.add_lit]; exact h 3 (by omega)⟩
theorem MR.on {W W' : World} {ad : Addr} {d : Array En} (M : MR W ad d) (hb : Below W.heap.size W W') : MR W' ad d :=
 ⟨fun j hj => by rw [hb.cell (p := ⟨ad.block, 0 + j, none⟩) M.lt, hb.frozen (p := ⟨ad.block, 0 + j, none⟩) M.lt]; exact M.hk j hj, Nat.lt_of_lt_of_le M.lt hb.size, M.ha⟩
theorem flat_set (d : Array En) (i : Nat) (e : En) (hi : i < d.size) : setMany (flatK encE 4 d) (i * 4) (encE e) = flatK encE 4 (d.setIfInBounds i e) := by
 refine ext_get! (by simp) fun t ht => ?_
 have ht' : t < d.size * 4 := by simpa using ht
 rw [get_setMany _ _ _ t (by simpa using ht'), get_flatK _ _ _ t ht', get_flatK _ _ _ t (by simpa using ht'), encE_len]
 by_cases a : t / 4 = i
 ·rw [if_pos ((blk_iff 4 i t (by omega)).2 a), a, getElem!_set_same d i e hi, show t - i * 4 = t % 4 by omega]
 ·rw [if_neg (fun h => a ((blk_iff 4 i t (by omega)).1 h)), getElem!_set_other d i _ e a]
theorem below_put (W : World) (g : Nat) (F : Array Value) : Below g W (putRow id W g 0 F) := Lib.below_putRow (q := 0) (Below.refl g W) (Nat.le_refl _)
theorem MR.setCells {W : World} {ad : Addr} {d : Array En} (M : MR W ad d) (i : Nat) (e : En) (hi : i < d.size) :
  W.setCells ad.block (i * 4) (encE e) = putRowK encE 4 W ad.block 0 (d.setIfInBounds i e) := by
 have h1 := putRowK_self encE 4 W ad.block 0 d M.hk
 have h2 := setCells_putRow W ad.block 0 (encE e) (i * 4) (flatK encE 4 d) (by rw [encE_len, size_flatK]; have := Nat.mul_le_mul_right 4 (show i + 1 ≤ d.size from hi); omega)
 unfold putRowK at h1
 rw [h1, flat_set d i e hi, Nat.zero_add] at h2
 exact h2
theorem MR.store {W : World} {ad : Addr} {d : Array En} (M : MR W ad d) (i : Nat) (e : En) (hi : i < d.size) :
  ∃ W' : World, (st28 (.pointer (some (ad.add (i * 4)))) (EV e)).run Tryz.prog W = .ok () W' ∧ MR W' ad (d.setIfInBounds i e) ∧ Below ad.block W W' ∧ W'.heap.size = W.heap.size := by
 have hs := stores_of_holds Tryz.prog (W := W) (blk := ad.block) (off := 0) (F := flatK encE 4 d) M.hk (i * 4) (encE e) (by rw [encE_len, size_flatK]; have := Nat.mul_le_mul_right 4 (show i + 1 ≤ d.size from hi); omega) (EC_one e)
 rw [Nat.zero_add, M.setCells i e hi] at hs
 refine ⟨_, ?_, ⟨holdsK_putRowK encE 4 W ad.block 0 d _ M.hk (by simp), by show ad.block < (putRow id W ad.block 0 _).heap.size; rw [size_putRow]; exact M.lt, M.ha⟩, below_put W ad.block _, size_putRow _ _ _ _ _⟩
 have ha := M.ha
 rw [ha, Addr.add_lit, Nat.zero_add]
 unfold st28
 cases hq : Tryz.prog.info? 48 with
 | none => have := size28; simp [hq] at this
 | some x =>
  have hz : x.size = 4 := by have := size28; simpa [hq] using this
  have hs' : (storeCells ⟨ad.block, i * 4, none⟩ (EC e).toList 0).run Tryz.prog W = .ok () (putRowK encE 4 W ad.block 0 (d.setIfInBounds i e)) := hs
  simp only [Instr.storeAt, Instr.sureAddr, Sem.run_bind, Sem.run_pure, Result.andThen, storeVar, sizeOf, typeInfo, cells_EV, EC_size]
  simp [hs', hq, hz]
theorem flat_lay (d : Array En) : ∀ (xs : List En) (i : Nat), i + xs.length ≤ d.size → setMany (flatK encE 4 d) (i * 4) (xs.map encE).flatten = flatK encE 4 (Lib.lay d i xs)
 | [], _, _ => rfl
 | x :: r, i, h => by
  have hi : i < d.size := by simp at h; omega
  have key : ∀ (F : Array Value) (s : Nat) (a b : List Value), setMany F s (a ++ b) = setMany (setMany F s a) (s + a.length) b := by
   intro F s a
   induction a generalizing F s with
   | nil => intro b; rfl
   | cons v a ih => intro b; simp only [List.cons_append, setMany, List.length_cons]; rw [ih, show s + 1 + a.length = s + (a.length + 1) by omega]
  rw [List.map_cons, List.flatten_cons, key, flat_set d i x hi, encE_len, show i * 4 + 4 = (i + 1) * 4 by omega]
  exact flat_lay (d.setIfInBounds i x) r (i + 1) (by simp at h ⊢; omega)
theorem zero29 (w : World) : (zeroValue 48).run Tryz.prog w = .ok (EV en0) w := Tryz.zeroValue48 w
theorem zeros (n : Nat) : (Builtin.zeroCells (EC en0) n).toList = ((List.replicate n en0).map encE).flatten := by
 show _ = ecs (List.replicate n en0)
 apply List.ext_getElem?
 intro t
 by_cases ht : t < n * 4
 ·have h2 := ecs_at (List.replicate n en0) (t / 4) (t % 4) (by simp; omega) (by omega)
  rw [show t / 4 * 4 + t % 4 = t by omega] at h2
  have hg : (List.replicate n en0).getD (t / 4) en0 = en0 := by simp [List.getD, show t / 4 < n by omega]
  rw [h2, hg]
  have h1 : (Builtin.zeroCells (EC en0) n).toList[t]? = some ((EC en0)[t % 4]!) := by simp [Builtin.zeroCells, EC_size, ht]
  rw [h1]
  have : t % 4 = 0 ∨ t % 4 = 1 ∨ t % 4 = 2 ∨ t % 4 = 3 := by omega
  rcases this with h | h | h | h <;> rw [h] <;> rfl
 ·rw [List.getElem?_eq_none (by simp [Builtin.zeroCells, EC_size]; omega), List.getElem?_eq_none (by rw [ecs_length]; simp; omega)]
theorem lay_size (d : Array En) : ∀ (xs : List En) (k : Nat), (Lib.lay d k xs).size = d.size := by
 intro xs
 induction xs generalizing d with
 | nil => intro k; rfl
 | cons x r ih => intro k; rw [Lib.lay, ih]; simp
theorem MR.clear {W : World} {ad : Addr} {d : Array En} (M : MR W ad d) (kk : Nat) (hk : kk < d.size) (c : Nat) :
  ∃ (W' : World) (d' : Array En), (∀ ty, (Builtin.clear_ #[22] ty #[.slice (some (ad.add (kk * 4))) (d.size - kk) c]).run Tryz.prog W = .ok (.tuple #[]) W') ∧ MR W' ad d' ∧ d'.size = d.size ∧ (∀ j, j < kk → d'[j]! = d[j]!) ∧ Below ad.block W W' ∧ W'.heap.size = W.heap.size := by
 obtain ⟨m, hm⟩ : ∃ m, d.size - kk = m := ⟨_, rfl⟩
 have h1 := putRowK_self encE 4 W ad.block 0 d M.hk
 have hlen : (((List.replicate m en0).map encE).flatten).length = m * 4 := by
  have := ecs_length (List.replicate m en0); rwa [List.length_replicate] at this
 have hs := stores_of_holds Tryz.prog (W := W) (blk := ad.block) (off := 0) (F := flatK encE 4 d) M.hk (kk * 4) ((List.replicate m en0).map encE).flatten (by rw [hlen, size_flatK]; omega) (by
  intro v hv
  obtain ⟨l, hl, hv⟩ := List.mem_flatten.1 hv
  obtain ⟨e, _, rfl⟩ := List.mem_map.1 hl
  exact EC_one e v hv)
 have h2 := setCells_putRow W ad.block 0 ((List.replicate m en0).map encE).flatten (kk * 4) (flatK encE 4 d) (by rw [hlen, size_flatK]; omega)
 unfold putRowK at h1
 rw [h1, flat_lay d (List.replicate m en0) kk (by simp; omega), Nat.zero_add] at h2
 rw [Nat.zero_add, h2] at hs
 refine ⟨_, Lib.lay d kk (List.replicate m en0), fun ty => ?_, ⟨holdsK_putRowK encE 4 W ad.block 0 d _ M.hk (lay_size _ _ _), by show ad.block < (putRow id W ad.block 0 _).heap.size; rw [size_putRow]; exact M.lt, M.ha⟩, lay_size _ _ _, fun j hj => ?_, below_put W ad.block _, size_putRow _ _ _ _ _⟩
 ·have ha := M.ha
  rw [ha, Addr.add_lit, Nat.zero_add, hm]
  obtain ⟨m', rfl⟩ : ∃ m', m = m' + 1 := ⟨m - 1, by omega⟩
  have hz := zero29 W
  simp [Builtin.clear_, run_underlying Tryz.underlying22, hz]
  rw [cells_EV, zeros, hs]
  rfl
 ·have := Lib.lay_get? (List.replicate m en0) d kk j (by simp; omega)
  rw [if_neg (by omega)] at this
  rw [getElem!_def, getElem!_def, this]
def Grew (w w' : World) : Prop := ∃ q os, w' = grow (w.drewN q) os
theorem grew_by (w : World) (a b c : Obj) : Grew w (((w.alloc a).alloc b).drew.alloc c) := by
 refine ⟨1, #[a] ++ #[b] ++ #[c], ?_⟩
 rw [alloc_eq_grow ((w.alloc a).alloc b).drew c, alloc_eq_grow (w.alloc a) b, alloc_eq_grow w a, grow_grow, drew_grow, grow_grow]
 rfl
set_option maxHeartbeats 1600000 in
theorem byDot_gr (x y : En) (w : World) : Calls Tryz.prog 44 #[enV x, enV y] w fun e w' => e = .returned (.int .i64 (byD x y)) ∧ Grew w w' := by
 have T0 := hide (Two.start w x y)
 obtain ⟨w0, Hw0⟩ : ∃ w0, Hid ((w.alloc (.cells #[.int .i64 x.rep, .int .i64 x.num, .string x.sku, .int .i64 x.qty] 48)).alloc (.cells #[.int .i64 y.rep, .int .i64 y.num, .string y.sku, .int .i64 y.qty] 48) = w0) := ⟨_, rfl⟩
 rw [Hw0.out] at T0
 have c1 := T0.out.a0
 have c2 := T0.out.a1
 have c3 := T0.out.b0
 have c4 := T0.out.b1
 obtain ⟨p, Hp⟩ : ∃ p, Hid (cmpI x.rep y.rep = p) := ⟨_, rfl⟩
 obtain ⟨q, Hq⟩ : ∃ q, Hid (cmpI x.num y.num = q) := ⟨_, rfl⟩
 have C1 : Hid (∀ W, Calls Tryz.prog 74 #[.int .i64 x.rep, .int .i64 y.rep] W fun e w' => e = .returned (.int .i64 p) ∧ w' = W) := fun W => by rw [← Hp.out]; exact cmp_any _ _ W
 have C2 : Hid (∀ W, Calls Tryz.prog 74 #[.int .i64 x.num, .int .i64 y.num] W fun e w' => e = .returned (.int .i64 q) ∧ w' = W) := fun W => by rw [← Hq.out]; exact cmp_any _ _ W
 have HF : Hid (or2 p q = byD x y) := by show _ = _; unfold byD; rw [Hp.out, Hq.out]
 have T1 : Hid (Two w (w0.drew.alloc (.cells #[.int .i64 p, .int .i64 q] 3)) x y) := (T0.out.on (below_drew (Below.refl _ _))).on (below_new _ _)
 have HO := hide (or_new p q w0.drew w0.heap.size rfl)
 have HG : Hid (Grew w (w0.drew.alloc (.cells #[.int .i64 p, .int .i64 q] 3))) := by rw [← Hw0.out]; exact grew_by _ _ _ _
 obtain ⟨r, m, s, q⟩ := x
 obtain ⟨r', m', s', q'⟩ := y
 go_enter Tryz.func44, Tryz.ntmps44
 go_wp2_with fail
 rw [Hw0.out]
 first | (go_region_held (fun W => W.cell? ⟨w.heap.size, 0, none⟩ = some (.int .i64 r) ∧ W.cell? ⟨w.heap.size, 1, none⟩ = some (.int .i64 m) ∧ W.cell? ⟨w.heap.size + 1, 0, none⟩ = some (.int .i64 r') ∧ W.cell? ⟨w.heap.size + 1, 1, none⟩ = some (.int .i64 m')) (first | exact ⟨T1.out.a0, T1.out.a1, T1.out.b0, T1.out.b1⟩ | go_keep) (first | (go_at_call_of 74 r; refine (C1.out _).mono ?_; rintro e w' ⟨rfl, rfl⟩) | (go_at_call_of 74 m; refine (C2.out _).mono ?_; rintro e w' ⟨rfl, rfl⟩) | (go_at_call 73; refine HO.out.mono ?_; rintro e w' ⟨rfl, rfl⟩))) | fail
 all_goals (go_wp2_with fail)
 all_goals go_ret
 all_goals exact ⟨ret_int HF.out, HG.out⟩
theorem byD_lt (x y : En) : ltOf byD x y = ahead x y := by
 unfold ltOf byD or2 cmpI ahead
 by_cases h1 : x.rep < y.rep
 ·simp [h1]
 ·by_cases h2 : y.rep < x.rep
  ·have : ¬ x.rep = y.rep := by omega
   simp [h1, h2, this]
  ·have e : x.rep = y.rep := by omega
   by_cases h3 : x.num < y.num
   ·simp [e, h3]
   ·by_cases h4 : y.num < x.num <;> simp [e, h3, h4]
theorem byD_swo : SWO (ltOf byD) where
 irrefl x := by rw [byD_lt]; exact ahead_irr x
 trans x y z h1 h2 := by rw [byD_lt] at *; exact ahead_trans h1 h2
 ntrans x y z h1 h2 := by rw [byD_lt] at *; simp [ahead] at *; omega
theorem cmpLays (blk size : Nat) (w : World) : CmpLays Tryz.prog 44 #[] encE 4 byD blk 0 size w :=
 fun _ _ _ _ x y => byDot_gr x y _
set_option maxRecDepth 100000 in
theorem sortFunc_any (ad : Addr) (cap n : Nat) (d : Array En) (w : World) (M : MR w ad d) (hn : d.size = n) (hb : n ≤ 3518437208883) :
  Calls Tryz.prog 100 #[.slice (some ad) n cap, .func (.func 44) #[] #[]] w fun e w' => e = .returned (.tuple #[]) ∧ ∃ d', d'.toList.Perm d.toList ∧ d'.toList.Pairwise (fun x y => leE x y = true) ∧ MR w' ad d' ∧ Below ad.block w w' := by
 subst hn
 have eg : ∀ args w, (callFunc 44 args).run Tryz.prog w = .ok (.enter 44 args) w := enters_of Tryz.func44 (by kernel_rfl) rfl
 have h := AnyQ.slices_SortFunc Tryz.sortEn 4 Tryz.isAgg48 Tryz.sizeOf48 encE (fun _ => rfl) (fun x v hv => EC_one x v hv) byD byD_swo 44 #[] ad.block 0 cap d w eg (cmpLays ad.block d.size w) M.hk M.lt (by omega)
 rw [← M.ha] at h
 refine Calls.mono h ?_
 rintro e w' ⟨rfl, d', m, os, ⟨hs, _, hp⟩, hsr, rfl⟩
 refine ⟨rfl, d', ?_, ?_, ⟨holdsK_sortWorldK_c encE 4 w ad.block 0 d d' m os M.hk M.lt hs, ?_, M.ha⟩, ?_⟩
 ·have e1 : d'.extract 0 d.size = d' := by rw [← hs]; simp
  have e2 : d.extract 0 d.size = d := by simp
  rwa [e1, e2] at hp
 ·rw [List.pairwise_iff_getElem]
  intro i j hi hj hij
  have := hsr i j (Nat.zero_le _) hij (by rw [← hs]; simpa using hj)
  rw [byD_lt] at this
  rw [getElem!_pos d' j (by simpa using hj), getElem!_pos d' i (by simpa using hi)] at this
  simp only [Array.getElem_toList]
  unfold leE; rw [this]; rfl
 ·have := M.lt
  show ad.block < (grow (putRow id (Sort.ahead w m) ad.block 0 (flatK encE 4 d')) os).heap.size
  show ad.block < ((putRow id (Sort.ahead w m) ad.block 0 (flatK encE 4 d')).heap ++ os).size
  rw [Array.size_append, size_putRow]
  show ad.block < w.heap.size + os.size
  omega
 ·have h1 : Below ad.block w (putRow id (Sort.ahead w m) ad.block 0 (flatK encE 4 d')) := Lib.below_putRow (Below.refl _ _) (Nat.le_refl _)
  refine h1.trans ?_
  have hsz : ad.block ≤ (putRow id (Sort.ahead w m) ad.block 0 (flatK encE 4 d')).heap.size := by rw [size_putRow]; exact Nat.le_of_lt M.lt
  show Below ad.block _ (grow (putRow id (Sort.ahead w m) ad.block 0 (flatK encE 4 d')) os)
  generalize putRow id (Sort.ahead w m) ad.block 0 (flatK encE 4 d') = V at hsz
  exact ⟨rfl, rfl, rfl, by show _ ≤ (V.heap ++ os).size; rw [Array.size_append]; omega, fun k hk => by show (V.heap ++ os)[k]? = _; rw [Array.getElem?_append_left (by omega)]⟩
end Go.Proofs.YtehcehhfdhiomaaGreat.K
namespace Go.Proofs.YtehcehhfdhiomaaGreat.K
open Go.RowKit
attribute [local go_sem ↓] ld28_eq st28_eq ld26_eq
attribute [local go_sem] zero_EC cells_EV EC_size fold_EC
theorem run_eqD (x y : En) (w : World) : (Op.equalIn 10000 46 (.agg (DC x)) (.agg (DC y))).run Tryz.prog w = .ok (sameDot x y) w := by
 have u3 := Tryz.underlying3
 have a3 := Tryz.isAgg3
 have z3 := Tryz.sizeOf3
 have hS : Tryz.prog.underlying 46 = some (.struct (Tryz.prog.fieldsOf 46)) := by kernel_rfl
 have hp : Tryz.prog.stoodInHeld 46 = false := by kernel_rfl
 obtain ⟨a, b, _, _⟩ := x
 obtain ⟨c, d, _, _⟩ := y
 show (Op.equalIn 10000 46 (.agg #[.int .i64 a, .int .i64 b]) (.agg #[.int .i64 c, .int .i64 d])).run Tryz.prog w = .ok (a == c && b == d) w
 rw [show (10000 : Nat) = 9999 + 1 from rfl, run_equalIn_struct w 9999 46 _ _ hS hp]
 simp only [Program.fieldsOf, Tryz.underlying46]
 go_simp
 by_cases h1 : a = c <;> by_cases h2 : b = d <;> simp [h1, h2]
attribute [local go_sem ↓] run_eq28 run_eqD
theorem eqE_iff (x y : En) : eqE x y = true ↔ x = y := by
 constructor
 ·intro h
  obtain ⟨a, b, s, c⟩ := x
  obtain ⟨a', b', s', c'⟩ := y
  simp only [eqE, Bool.and_eq_true, beq_iff_eq] at h
  obtain ⟨⟨⟨rfl, rfl⟩, h3⟩, rfl⟩ := h
  have : s = s' := by
   rw [ByteArray.toList_eq, ByteArray.toList_eq] at h3
   cases s; cases s'; simp at h3; simp [h3]
  rw [this]
 ·rintro rfl; exact eqE_self _
def GivesT (w w' : World) (e : Ending) (L : List En) : Prop := ∃ ao n c R er, e = .returned (.tuple #[.slice ao n c, .int .i64 er]) ∧ ESrc w' ao n c R ∧ Below w.heap.size w w' ∧ (∀ ad, ao = some ad → w.heap.size ≤ ad.block) ∧ Settled L R er
end Go.Proofs.YtehcehhfdhiomaaGreat.K
