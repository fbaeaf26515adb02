/- PoolOnce: what was put first, what is spent: two rows that grow. -/
import Derived.Test.YtichkohhngcpoaaXWa
namespace Go.Proofs.Ytichkohhngcpoaa
open Go.RowKit Go.Maps
variable {w w' w2 w0 : World} {g mb g1 made K : Nat} {M : Int → Option Ltr} {C : Int → List Int}

theorem own_keep {T : TypeId} {v : Value} {n : Nat} {L : List Value} (h : w.ownsRow 0 T 1 v n L) (hk : ∀ k, v.ownBlock = some k → w'.heap[k]? = w.heap[k]?) : w'.ownsRow 0 T 1 v n L := by
  refine ⟨h.1, ?_⟩
  rcases h.2 with h0 | ⟨q, cap2, cur, hv, hq, hh, r⟩
  · exact Or.inl h0
  · subst hv
    exact Or.inr ⟨q, cap2, cur, rfl, hq, (hk q rfl).trans hh, r⟩
theorem own_lt {T : TypeId} {v : Value} {n : Nat} {L : List Value} (h : w.ownsRow 0 T 1 v n L) (k : Nat) (hk : v.ownBlock = some k) : k < w.heap.size := by
  rcases h.2 with ⟨h0, _⟩ | ⟨q, cap2, cur, hv, hq, hh, r⟩
  · subst h0; cases hk
  · subst hv
    have : q = k := Option.some.inj hk
    subst this
    exact (Array.getElem?_eq_some_iff.1 hh).1
theorem own_form {T : TypeId} {n : Nat} {v : Value} {L : List Value} (h : w.ownsRow 0 T 1 v n L) : ∃ bo c, v = .slice bo n c := by
  rcases h.2 with ⟨h0, h00⟩ | ⟨q, cap2, cur, hv, r⟩
  · exact ⟨none, 0, by rw [h0, h00]⟩
  · exact ⟨_, _, hv⟩
/-- a row of values of one cell -/
abbrev RW (w : World) (T : TypeId) (ao : Option Addr) (n c : Nat) (L : List Value) : Prop := w.ownsRow 0 T 1 (.slice ao n c) n L
theorem RW.at {T : TypeId} {ao : Option Addr} {n c : Nat} {L : List Value} (h : RW w T ao n c L) (j : Nat) (hj : j < n) : ∃ b, ao = some ⟨b, 0, none⟩ ∧ w.cell? ⟨b, j, none⟩ = L[j]? ∧ w.frozen? ⟨b, j, none⟩ = false := by
  rcases h.2 with ⟨h0, h00⟩ | ⟨q, cap2, cur, hv, hq, hh, r⟩
  · omega
  · simp only [Value.slice.injEq, true_and] at hv
    obtain ⟨rfl, rfl⟩ := hv
    exact ⟨q, rfl, h.cellAt j (by omega), by simp [World.frozen?, hh]⟩
theorem RW.set {T : TypeId} {b n c : Nat} {L : List Value} (h : RW w T (some ⟨b, 0, none⟩) n c L) (j : Nat) (_ : j < n) (v : Value) : RW (w.setCell ⟨b, j, none⟩ v) T (some ⟨b, 0, none⟩) n c (L.set j v) := by
  have hl := h.1
  refine ⟨by rw [List.length_set]; exact hl, ?_⟩
  rcases h.2 with ⟨h0, h00⟩ | ⟨q, cap2, cur, hv, hq, hh, hnc, hcm, hcs, ht⟩
  · cases h0
  · simp only [Value.slice.injEq, Option.some.injEq, Addr.mk.injEq, and_true, true_and] at hv
    obtain ⟨rfl, rfl⟩ := hv
    refine Or.inr ⟨b, c, cur.setIfInBounds j v, rfl, hq, ?_, hnc, hcm, by rw [Array.size_setIfInBounds]; exact hcs, ?_⟩
    · simp [World.setCell, hh, Array.getElem?_modify, Array.setIfInBounds]
    · rw [Array.toList_setIfInBounds, List.take_set, ht]
abbrev strs (F : List (List Int)) : List Value := F.map fun Z => .string (strOfNums Z)
abbrev bls (S : List Bool) : List Value := S.map Value.bool
theorem infoS : (Try.prog.info? 9).map (fun i => (i.zero, i.size, i.bytes)) = some (some (.string ⟨#[]⟩), 1, 16) := by kernel_rfl
theorem infoBo : (Try.prog.info? 4).map (fun i => (i.zero, i.size, i.bytes)) = some (some (.bool false), 1, 1) := by kernel_rfl
theorem Ap.newA {o : Obj} {ao bo : Option Addr} (h : Ap (w.alloc o) w2 ao bo) : Ap w w2 ao bo := (Ap.new w o ao).trans h
theorem appS {ao : Option Addr} {n c : Nat} {L : List Value} {x : Value} (h : RW w 9 ao n c L) (hx : x.oneCell' = true) (hb : n + 1 ≤ 5000000000000)
    {ops : Array Oper} {rest : List Oper} {o : Oper} {a : Act} {Q : Exit → Act → World → Prop} (hgd : o.guard = none) (sl y : Operand) (ho : o.op = .call { callee := .builtin .append, args := #[sl, y], argTypes := #[26, 26] })
    (hs : a.eval sl = .slice ao n c) (hy : a.eval y = .slice (some ⟨w.heap.size, 0, none⟩) 1 1)
    (hK : ∀ (bo : Option Addr) (c2 : Nat) (w2 : World), RW w2 9 bo (n + 1) c2 (L ++ [x]) → Ap w w2 ao bo → wpList Try.prog ops Q rest (a.put o.dst (.slice bo (n + 1) c2)) w2) :
    wpList Try.prog ops Q (o :: rest) a (w.alloc (.cells #[x] 9)) := by
  obtain ⟨i0, hi, hz0, hz1, hz2⟩ := info_parts infoS
  refine wpList_append_own_at _ hgd sl y 26 ho 0 9 i0 (.string ⟨#[]⟩) 1 16 Try.underlying26 hi hz0 hz1 hz2 rfl (by decide) _ n L hs (own_keep h fun k hk => Below.heap_alloc w _ k (own_lt h k hk)) ⟨w.heap.size, 0, none⟩ 1 1 [x] hy rfl (fun j u hj => ?_) (by simpa using hx) (by unfold maxLen; omega) (by omega) (Nat.zero_le _) ?_
  · match j, hj with
    | 0, hj => cases hj; exact cell_one_new w _ _ 0 _ rfl
  · intro v' w2 hown hgrow _ hat
    obtain ⟨bo, c2, rfl⟩ := own_form hown
    rw [ownBlock_blk] at hgrow
    rw [ownBlock_blk, ownBlock_blk] at hat
    refine hK bo c2 w2 hown (Ap.newA ⟨hgrow, ?_⟩)
    rcases hat with e | e
    · exact Or.inl e
    · exact Or.inr ⟨_, e, Nat.le_refl _⟩
theorem appO {ao : Option Addr} {n c : Nat} {L : List Value} {x : Value} (h : RW w 4 ao n c L) (hx : x.oneCell' = true) (hb : n + 1 ≤ 5000000000000)
    {ops : Array Oper} {rest : List Oper} {o : Oper} {a : Act} {Q : Exit → Act → World → Prop} (hgd : o.guard = none) (sl y : Operand) (ho : o.op = .call { callee := .builtin .append, args := #[sl, y], argTypes := #[27, 27] })
    (hs : a.eval sl = .slice ao n c) (hy : a.eval y = .slice (some ⟨w.heap.size, 0, none⟩) 1 1)
    (hK : ∀ (bo : Option Addr) (c2 : Nat) (w2 : World), RW w2 4 bo (n + 1) c2 (L ++ [x]) → Ap w w2 ao bo → wpList Try.prog ops Q rest (a.put o.dst (.slice bo (n + 1) c2)) w2) :
    wpList Try.prog ops Q (o :: rest) a (w.alloc (.cells #[x] 4)) := by
  obtain ⟨i0, hi, hz0, hz1, hz2⟩ := info_parts infoBo
  refine wpList_append_own_at _ hgd sl y 27 ho 0 4 i0 (.bool false) 1 1 Try.underlying27 hi hz0 hz1 hz2 rfl (by decide) _ n L hs (own_keep h fun k hk => Below.heap_alloc w _ k (own_lt h k hk)) ⟨w.heap.size, 0, none⟩ 1 1 [x] hy rfl (fun j u hj => ?_) (by simpa using hx) (by unfold maxLen; omega) (by omega) (Nat.zero_le _) ?_
  · match j, hj with
    | 0, hj => cases hj; exact cell_one_new w _ _ 0 _ rfl
  · intro v' w2 hown hgrow _ hat
    obtain ⟨bo, c2, rfl⟩ := own_form hown
    rw [ownBlock_blk] at hgrow
    rw [ownBlock_blk, ownBlock_blk] at hat
    refine hK bo c2 w2 hown (Ap.newA ⟨hgrow, ?_⟩)
    rcases hat with e | e
    · exact Or.inl e
    · exact Or.inr ⟨_, e, Nat.le_refl _⟩
/-! ### the two rows beside the pool -/
structure OH (w0 w : World) (g mb : Nat) (F : List (List Int)) (S : List Bool) (nF nS : Nat) (a4 : Option Addr) (c4 : Nat) (a5 : Option Addr) (c5 : Nat) : Prop where
  rf : RW w 9 a4 nF c4 (strs F)
  rs : RW w 4 a5 nS c5 (bls S)
  nf : ∀ k, blk a4 = some k → k ≠ g ∧ k ≠ mb ∧ w0.heap.size ≤ k ∧ blk a5 ≠ some k
  ns : ∀ k, blk a5 = some k → k ≠ g ∧ k ≠ mb ∧ w0.heap.size ≤ k
  bel : Below w0.heap.size w0 w
  gb : w0.heap.size ≤ g ∧ w0.heap.size ≤ mb
variable {F : List (List Int)} {S : List Bool} {nF nS : Nat} {a4 a5 : Option Addr} {c4 c5 : Nat}
theorem OH.fw (h : OH w0 w g mb F S nF nS a4 c4 a5 c5) (X : Fw w w' g mb) : OH w0 w' g mb F S nF nS a4 c4 a5 c5 :=
  ⟨own_keep h.rf fun k e => by rw [ownBlock_blk] at e; exact X.block k (own_lt h.rf k (by rw [ownBlock_blk]; exact e)) (h.nf k e).1 (h.nf k e).2.1,
   own_keep h.rs fun k e => by rw [ownBlock_blk] at e; exact X.block k (own_lt h.rs k (by rw [ownBlock_blk]; exact e)) (h.ns k e).1 (h.ns k e).2.1,
   h.nf, h.ns, Below.fw h.bel X h.gb.1 h.gb.2, h.gb⟩
theorem OH.below (h : OH w0 w g mb F S nF nS a4 c4 a5 c5) (hb : Below w.heap.size w w') : OH w0 w' g mb F S nF nS a4 c4 a5 c5 := h.fw (Fw.of_below hb)
theorem OH.lf (h : OH w0 w g mb F S nF nS a4 c4 a5 c5) (k : Nat) (e : blk a4 = some k) : k < w.heap.size := own_lt h.rf k (by rw [ownBlock_blk]; exact e)
theorem OH.ls (h : OH w0 w g mb F S nF nS a4 c4 a5 c5) (k : Nat) (e : blk a5 = some k) : k < w.heap.size := own_lt h.rs k (by rw [ownBlock_blk]; exact e)
theorem below_grown {r : Option Nat} (h : Below w0.heap.size w0 w) (hg : w.grownBy w' r) (hr : ∀ k, r = some k → w0.heap.size ≤ k) : Below w0.heap.size w0 w' :=
  h.grown hg h.size hr
/-- first has grown -/
theorem OH.addF (h : OH w0 w g mb F S nF nS a4 c4 a5 c5) {b4 : Option Addr} {c2 : Nat} {Z : List Int} (R : RW w2 9 b4 (nF + 1) c2 (strs F ++ [.string (strOfNums Z)])) (A : Ap w w2 a4 b4) (hg : g < w.heap.size ∧ mb < w.heap.size) : OH w0 w2 g mb (F ++ [Z]) S (nF + 1) nS b4 c2 a5 c5 := by
  have e : strs (F ++ [Z]) = strs F ++ [.string (strOfNums Z)] := by simp
  have hz := h.bel.size
  have hk : ∀ k, blk b4 = some k → blk a4 = some k ∨ w.heap.size ≤ k := fun k ek => by
    rcases A.lies with x | ⟨j, x, hj⟩
    · exact Or.inl (x ▸ ek)
    · rw [x] at ek
      have := Option.some.inj ek
      exact Or.inr (by omega)
  refine ⟨by rw [e]; exact R, own_keep h.rs fun k ek => ?_, fun k ek => ?_, h.ns, below_grown h.bel A.grown (fun k ek => (h.nf k ek).2.2.1), h.gb⟩
  · rw [ownBlock_blk] at ek
    exact A.grown.block k (h.ls k ek) (fun x => (h.nf k x.symm).2.2.2 ek)
  · rcases hk k ek with x | x
    · exact h.nf k x
    · exact ⟨by omega, by omega, by omega, fun y => by have := h.ls k y; omega⟩
/-- spent has grown -/
theorem OH.addS (h : OH w0 w g mb F S nF nS a4 c4 a5 c5) {b5 : Option Addr} {c2 : Nat} {b : Bool} (R : RW w2 4 b5 (nS + 1) c2 (bls S ++ [.bool b])) (A : Ap w w2 a5 b5) (hg : g < w.heap.size ∧ mb < w.heap.size) : OH w0 w2 g mb F (S ++ [b]) nF (nS + 1) a4 c4 b5 c2 := by
  have e : bls (S ++ [b]) = bls S ++ [.bool b] := by simp
  have hz := h.bel.size
  have hk : ∀ k, blk b5 = some k → blk a5 = some k ∨ w.heap.size ≤ k := fun k ek => by
    rcases A.lies with x | ⟨j, x, hj⟩
    · exact Or.inl (x ▸ ek)
    · rw [x] at ek
      have := Option.some.inj ek
      exact Or.inr (by omega)
  refine ⟨own_keep h.rf fun k ek => ?_, by rw [e]; exact R, fun k ek => ⟨(h.nf k ek).1, (h.nf k ek).2.1, (h.nf k ek).2.2.1, fun y => ?_⟩, fun k ek => ?_, below_grown h.bel A.grown (fun k ek => (h.ns k ek).2.2), h.gb⟩
  · rw [ownBlock_blk] at ek
    exact A.grown.block k (h.lf k ek) (fun x => (h.nf k ek).2.2.2 x.symm)
  · rcases hk k y with x | x
    · exact (h.nf k ek).2.2.2 x
    · have := h.lf k ek; omega
  · rcases hk k ek with x | x
    · exact h.ns k x
    · exact ⟨by omega, by omega, by omega⟩
/-- spent[j] is written -/
theorem OH.setS {b5 : Nat} (h : OH w0 w g mb F S nF nS a4 c4 (some ⟨b5, 0, none⟩) c5) (j : Nat) (hj : j < nS) (b : Bool) : OH w0 (w.setCell ⟨b5, j, none⟩ (.bool b)) g mb F (S.set j b) nF nS a4 c4 (some ⟨b5, 0, none⟩) c5 := by
  have e : bls (S.set j b) = (bls S).set j (.bool b) := by simp [bls, List.map_set]
  refine ⟨own_keep h.rf fun k ek => ?_, by rw [e]; exact h.rs.set j hj _, h.nf, h.ns, Below.set h.bel b5 j _ (h.ns b5 rfl).2.2, h.gb⟩
  rw [ownBlock_blk] at ek
  exact set_other w b5 j k _ (fun x => (h.nf k ek).2.2.2 (by rw [x]; rfl))
/-- the pool's rows are none of the two -/
def NR (M : Int → Option Ltr) (a4 a5 : Option Addr) : Prop := ∀ x l, M x = some l → ∀ k, blk l.bo = some k → blk a4 ≠ some k ∧ blk a5 ≠ some k
theorem Pl.grown {r : Option Nat} (P : Pl w g mb made K M C) (hg : w.grownBy w2 r) (h1 : some g ≠ r) (h2 : some mb ≠ r) (h3 : ∀ x l, M x = some l → ∀ k, blk l.bo = some k → some k ≠ r) : Pl w2 g mb made K M C := by
  obtain ⟨D, h, hM⟩ := P.map
  refine ⟨(hg.block g P.g_lt h1).trans P.box, ⟨D, owns_below h (hg.block mb P.mb_lt h2), hM⟩, fun x l e => ?_, P.dom, P.ne⟩
  have R := P.row x l e
  exact ⟨R.bs.blkKeep fun k ek => hg.block k (R.ne k ek).2.2 (h3 x l e k ek), fun k ek => ⟨(R.ne k ek).1, (R.ne k ek).2.1, Nat.lt_of_lt_of_le (R.ne k ek).2.2 hg.size⟩, R.big, R.cap⟩
/-- the law's own book and the pool's -/
structure Rl (M : Int → Option Ltr) (C : Int → List Int) (F : List (List Int)) (S : List Bool) (made : Nat) : Prop where
  lenF : F.length = made
  lenS : S.length = made
  live : ∀ j, j < made → (M ((j : Int) + 1)).isSome = !(S.getD j true)
  pre : ∀ j l, j < made → M ((j : Int) + 1) = some l → C ((j : Int) + 1) = (F.getD j []).take (C ((j : Int) + 1)).length
theorem getD_snoc {α : Type} (L : List α) (x d : α) (j : Nat) : (L ++ [x]).getD j d = if j < L.length then L.getD j d else if j = L.length then x else d := by
  simp only [List.getD_eq_getElem?_getD]
  by_cases h : j < L.length
  · rw [if_pos h, List.getElem?_append_left h]
  · rw [if_neg h, List.getElem?_append_right (by omega)]
    by_cases e : j = L.length
    · rw [if_pos e, e]; simp
    · rw [if_neg e, List.getElem?_eq_none (by simp; omega)]; rfl
theorem Rl.add (R : Rl M C F S made) (l : Ltr) (Z Y : List Int) (hZ : Z = Y.take Z.length) : Rl (mput M ((made + 1 : Nat) : Int) l) (cput C ((made + 1 : Nat) : Int) Z) (F ++ [Y]) (S ++ [false]) (made + 1) := by
  refine ⟨by rw [List.length_append, R.lenF]; rfl, by rw [List.length_append, R.lenS]; rfl, fun j hj => ?_, fun j m hj hm => ?_⟩
  · rw [getD_snoc, R.lenS]
    unfold mput
    by_cases e : j < made
    · rw [if_neg (by omega), if_pos e, R.live j e]
    · rw [if_pos (by omega), if_neg e, if_pos (by omega)]; rfl
  · rw [getD_snoc, R.lenF]
    unfold mput at hm
    unfold cput
    by_cases e : j < made
    · rw [if_neg (by omega)] at hm
      rw [if_neg (by omega), if_pos e]
      exact R.pre j m e hm
    · rw [if_pos (by omega), if_neg e, if_pos (by omega)]
      exact hZ
theorem Rl.del (R : Rl M C F S made) (j : Nat) (hj : j < made) : Rl (mdel M ((j : Int) + 1)) C F (S.set j true) made := by
  refine ⟨R.lenF, by rw [List.length_set]; exact R.lenS, fun i hi => ?_, fun i m hi hm => R.pre i m hi (mdel_some hm)⟩
  unfold mdel
  by_cases e : i = j
  · subst e
    rw [if_pos rfl]
    simp [List.getD_eq_getElem?_getD, R.lenS, hi]
  · rw [if_neg (by omega), R.live i hi]
    simp [List.getD_eq_getElem?_getD, Ne.symm e]
theorem Rl.trim (R : Rl M C F S made) (j : Nat) (hj : j < made) {l : Ltr} (l2 : Ltr) (hM : M ((j : Int) + 1) = some l) (lf : Nat) : Rl (mput M ((j : Int) + 1) l2) (cput C ((j : Int) + 1) ((C ((j : Int) + 1)).take lf)) F S made := by
  refine ⟨R.lenF, R.lenS, fun i hi => ?_, fun i m hi hm => ?_⟩
  · unfold mput
    by_cases e : i = j
    · subst e
      rw [if_pos rfl, ← R.live i hi, hM]; rfl
    · rw [if_neg (by omega)]; exact R.live i hi
  · unfold mput at hm
    unfold cput
    by_cases e : i = j
    · subst e
      rw [if_pos rfl]
      have h := R.pre i l hi hM
      generalize C ((i : Int) + 1) = Z at h
      rw [h, List.take_take, List.length_take]
      exact List.take_eq_take_iff.2 (by omega)
    · rw [if_neg (by omega)] at hm ⊢
      exact R.pre i m hi hm
theorem mdel_none {x : Int} (h : M x = none) : mdel M x = M := by
  funext y
  unfold mdel
  split
  · rename_i e; rw [e, h]
  · rfl
/-! ### begins -/
theorem str_take (Z : List Int) (n : Nat) : (strOfNums Z).extract 0 n = strOfNums (Z.take n) := by
  have h : ((strOfNums Z).extract 0 n).data.toList = (strOfNums (Z.take n)).data.toList := by
    rw [ByteArray.data_extract, Array.toList_extract, strOfNums_data, strOfNums_data]
    simp [List.extract, List.map_take]
  cases h1 : (strOfNums Z).extract 0 n with
  | mk a =>
    cases h2 : strOfNums (Z.take n) with
    | mk b =>
      rw [h1, h2] at h
      have : a = b := Array.toList_inj.1 h
      rw [this]
set_option maxRecDepth 100000 in
theorem begins_any (Y Z : List Int) (hZ : Z = Y.take Z.length) (_ : Y.length ≤ 140737488355328) (w : World) : Calls Try.prog 9 #[.string (strOfNums Y), .string (strOfNums Z)] w fun r w' => r = .returned (.bool true) ∧ w' = w := by
  have hs1 := strOfNums_size Y
  have hs2 := strOfNums_size Z
  have hle : Z.length ≤ Y.length := by rw [hZ, List.length_take]; omega
  have hx : (strOfNums Y).extract 0 Z.length = strOfNums Z := by rw [str_take, ← hZ]
  obtain ⟨y, hy⟩ : ∃ y, strOfNums Y = y := ⟨_, rfl⟩
  obtain ⟨z, hz⟩ : ∃ z, strOfNums Z = z := ⟨_, rfl⟩
  rw [hy] at hs1 hx ⊢
  rw [hz] at hs2 hx ⊢
  obtain ⟨n, hn⟩ : ∃ n, Z.length = n := ⟨_, rfl⟩
  obtain ⟨m, hm⟩ : ∃ m, Y.length = m := ⟨_, rfl⟩
  rw [hn] at hs2 hx hle
  rw [hm] at hs1 hle
  clear hZ hy hz hn hm
  go_enter Try.func9, Try.ntmps9
  go_wp2_with fail
  go_ret
  exact ⟨rfl, rfl⟩
end Go.Proofs.Ytichkohhngcpoaa
