/- A pool in memory; own, Look, Made. -/
import Derived.Test.YthagachlilnjpaaXLt
import Derived.Maps.OwnSet
import Derived.Maps.Ext
namespace Go.Proofs.Ythagachlilnjpaa
open Go.RowKit Go.Maps
variable {w w' w2 : World} {g mb made K : Nat}
attribute [local go_sem ↓] ldT_eq stT_eq

abbrev ptr (g : Nat) : Value := .pointer (some ⟨g, 0, none⟩)
theorem lawI : Keyed Try.prog 3 := int_keyed Try.underlying3
theorem zeroT (w : World) : (zeroValue 40).run Try.prog w = .ok (TV t0) w := Try.zeroValue40 w
/-- how a letter in a map reads -/
def RT (v : Value) : Option (DataW Ltr × List MemPlace) :=
  match v with
  | .agg cs => (match cs.toList with
    | [.int .i64 f, .int .i64 t, .slice o n c] => some (.held ⟨f, t, o, n, c⟩, [])
    | _ => none)
  | _ => none
theorem RT_mk (l : Ltr) : RT (TV l) = some (.held l, []) := rfl
theorem RT_inv {v : Value} {l : Ltr} {ps : List MemPlace} (h : RT v = some (.held l, ps)) : v = TV l := by
  unfold RT at h
  split at h
  · rename_i cs
    split at h
    · rename_i f t o n c hcs
      simp at h
      obtain ⟨rfl, _⟩ := h
      show Value.agg cs = Value.agg #[.int .i64 f, .int .i64 t, .slice o n c]
      rw [show cs = #[.int .i64 f, .int .i64 t, .slice o n c] from Array.toList_inj.1 hcs]
    · cases h
  · cases h
def i64ok (x : Int) : Prop := -9223372036854775808 ≤ x ∧ x ≤ 9223372036854775807
theorem wf_of {x : Int} (h : i64ok x) : (Lit.int .i64 x).wf = true := by
  have e1 : IntKind.i64.min = -9223372036854775808 := by decide
  have e2 : IntKind.i64.max = 9223372036854775807 := by decide
  unfold i64ok at h
  simp only [Lit.wf, e1, e2, Bool.and_eq_true, decide_eq_true_eq]
  exact h
theorem key_of {x : Int} (h : i64ok x) : keyOf Try.prog 3 (.int .i64 x) = some (.int .i64 x) := keyOf_int_mk Try.underlying3 (wf_of h)
/-- what the map holds -/
structure Md (D : DataW Ltr) (M : Int → Option Ltr) : Prop where
  has : ∀ x, Maps.has D (.int .i64 x) = (M x).isSome
  at' : ∀ x, D.atKey (.int .i64 x) (.held t0) = .held ((M x).getD t0)
def mput (M : Int → Option Ltr) (x : Int) (l : Ltr) : Int → Option Ltr := fun y => if y = x then some l else M y
def mdel (M : Int → Option Ltr) (x : Int) : Int → Option Ltr := fun y => if y = x then none else M y
def cput (C : Int → List Int) (x : Int) (Z : List Int) : Int → List Int := fun y => if y = x then Z else C y
theorem md_start : Md (.map []) (fun _ => none) := ⟨fun x => by simp [Maps.has], fun x => rfl⟩
theorem lit_ne {x y : Int} (h : y ≠ x) : (Lit.int .i64 y) ≠ .int .i64 x := fun e => h (by simpa using e)
theorem Md.put {D : DataW Ltr} {M : Int → Option Ltr} (h : Md D M) (hm : IsMap D) (x : Int) (l : Ltr) : Md (D.put (.int .i64 x) (.held l)) (mput M x l) := by
  refine ⟨fun y => ?_, fun y => ?_⟩
  · unfold mput
    by_cases e : y = x
    · subst e; rw [if_pos rfl, has_put_same hm (k := .int .i64 y) (show WideAt.IsKeyLit (.int .i64 y) from trivial)]; rfl
    · rw [if_neg e, has_put_other (lit_ne e), h.has]
  · unfold mput
    by_cases e : y = x
    · subst e; rw [if_pos rfl, atKey_put_same hm (k := .int .i64 y) (show WideAt.IsKeyLit (.int .i64 y) from trivial)]; rfl
    · rw [if_neg e, atKey_put_other (lit_ne e), h.at']
theorem Md.del {D : DataW Ltr} {M : Int → Option Ltr} (h : Md D M) (x : Int) : Md (D.del (.int .i64 x)) (mdel M x) := by
  refine ⟨fun y => ?_, fun y => ?_⟩
  · unfold mdel
    by_cases e : y = x
    · subst e; rw [if_pos rfl, has_del_same]; rfl
    · rw [if_neg e, has_del_other (lit_ne e), h.has]
  · unfold mdel
    by_cases e : y = x
    · subst e; rw [if_pos rfl, atKey_del_same]; rfl
    · rw [if_neg e, atKey_del_other (lit_ne e), h.at']
/-- a row that is kept: its block is none of the pool's own -/
structure Rw (w : World) (g mb : Nat) (l : Ltr) (Z : List Int) : Prop where
  bs : BS w l.bo l.bn l.bc Z
  ne : ∀ k, blk l.bo = some k → k ≠ g ∧ k ≠ mb ∧ k < w.heap.size
  big : l.bn ≤ 140737488355328
  cap : l.bn ≤ l.bc
/-- the pool at g -/
structure Pl (w : World) (g mb made K : Nat) (M : Int → Option Ltr) (C : Int → List Int) : Prop where
  box : w.heap[g]? = some (.cells #[.int .i64 (made : Int), .map (some mb)] 61 (0, 0))
  map : ∃ D, w.ownsMap Try.prog 3 RT mb K D ∧ Md D M
  row : ∀ x l, M x = some l → Rw w g mb l (C x)
  dom : ∀ x l, M x = some l → 1 ≤ x ∧ x ≤ (made : Int)
  ne : g ≠ mb
variable {M : Int → Option Ltr} {C : Int → List Int}
/-- the pool's two blocks alone may have been written -/
structure Fw (w w' : World) (g mb : Nat) : Prop where
  os : w'.os = w.os
  tape : w'.tape = w.tape
  output : w'.output = w.output
  size : w.heap.size ≤ w'.heap.size
  block : ∀ k, k < w.heap.size → k ≠ g → k ≠ mb → w'.heap[k]? = w.heap[k]?
theorem Fw.of_below (h : Below w.heap.size w w') : Fw w w' g mb := ⟨h.os, h.tape, h.output, h.size, fun k hk _ _ => h.block k hk⟩
theorem Fw.trans (h : Fw w w' g mb) (k : Fw w' w2 g mb) : Fw w w2 g mb :=
  ⟨k.os.trans h.os, k.tape.trans h.tape, k.output.trans h.output, Nat.le_trans h.size k.size, fun i hi h1 h2 => (k.block i (Nat.lt_of_lt_of_le hi h.size) h1 h2).trans (h.block i hi h1 h2)⟩
theorem BS.blkKeep {ao : Option Addr} {n c : Nat} {Z : List Int} (S : BS w ao n c Z) (hk : ∀ k, blk ao = some k → w'.heap[k]? = w.heap[k]?) : BS w' ao n c Z := by
  refine ⟨S.len, S.nil, fun ad ha t ht => ?_⟩
  rw [World.cell?_of_block (w := w) (w' := w') (by rw [block_of_add]; exact hk ad.block (by rw [ha]; rfl))]
  exact S.cell ad ha t ht
theorem Rw.keep {l : Ltr} {Z : List Int} (h : Rw w g mb l Z) (F : Fw w w' g mb) : Rw w' g mb l Z :=
  ⟨h.bs.blkKeep fun k e => F.block k (h.ne k e).2.2 (h.ne k e).1 (h.ne k e).2.1, fun k e => ⟨(h.ne k e).1, (h.ne k e).2.1, Nat.lt_of_lt_of_le (h.ne k e).2.2 F.size⟩, h.big, h.cap⟩
theorem Pl.g_lt (P : Pl w g mb made K M C) : g < w.heap.size := (Array.getElem?_eq_some_iff.1 P.box).1
theorem Pl.mb_lt (P : Pl w g mb made K M C) : mb < w.heap.size := by obtain ⟨D, h, _⟩ := P.map; exact h.lt
theorem owns_below {D : DataW Ltr} (h : w.ownsMap Try.prog 3 RT mb K D) (hb : w'.heap[mb]? = w.heap[mb]?) : w'.ownsMap Try.prog 3 RT mb K D := by
  obtain ⟨es, c, h1, h2⟩ := h
  exact ⟨es, c, hb.trans h1, h2⟩
theorem Pl.below (P : Pl w g mb made K M C) (hb : Below w.heap.size w w') : Pl w' g mb made K M C := by
  obtain ⟨D, h, hM⟩ := P.map
  exact ⟨(hb.block g P.g_lt).trans P.box, ⟨D, owns_below h (hb.block mb P.mb_lt), hM⟩, fun x l e => (P.row x l e).keep (Fw.of_below hb), P.dom, P.ne⟩
theorem cell_of_box {cs : Array Value} {t : TypeId} (h : w.heap[g]? = some (.cells cs t (0, 0))) (k : Nat) : w.cell? ⟨g, k, none⟩ = cs[k]? := by simp [World.cell?, h]
theorem frozen_of_box {cs : Array Value} {t : TypeId} (h : w.heap[g]? = some (.cells cs t (0, 0))) (k : Nat) : w.frozen? ⟨g, k, none⟩ = false := by simp [World.frozen?, h]
theorem Pl.c0 (P : Pl w g mb made K M C) : w.cell? ⟨g, 0, none⟩ = some (.int .i64 (made : Int)) := by rw [cell_of_box P.box]; rfl
theorem Pl.c1 (P : Pl w g mb made K M C) : w.cell? ⟨g, 1, none⟩ = some (.map (some mb)) := by rw [cell_of_box P.box]; rfl
theorem Pl.look_run (P : Pl w g mb made K M C) {x : Int} (hx : i64ok x) : (Instr.lookup 59 (.map (some mb)) (.int .i64 x) true).run Try.prog w = .ok (.tuple #[TV ((M x).getD t0), .bool (M x).isSome]) w := by
  obtain ⟨D, h, hM⟩ := P.map
  obtain ⟨v, ps, hr, hv⟩ := h.look_ok lawI Try.underlying59 (zeroT w) (RT_mk t0) (key_of hx)
  rw [hM.at'] at hv
  rw [hr, hM.has, RT_inv hv]
theorem Pl.made_any (P : Pl w g mb made K M C) : Calls Try.prog 19 #[ptr g] w fun r w' => r = .returned (.int .i64 (made : Int)) ∧ w' = w := by
  have x0 := P.c0
  clear P
  go_enter Try.func19, Try.ntmps19
  go_wp2_with fail
  go_ret
  exact ⟨rfl, rfl⟩
theorem to_TC (f t : Int) (o : Option Addr) (n c : Nat) : (#[.int .i64 f, .int .i64 t, .slice o n c] : Array Value) = TC ⟨f, t, o, n, c⟩ := rfl
theorem set2 {l : Ltr} (h : TBox w g l) (o : Option Addr) (n c : Nat) : TBox (w.setCell ⟨g, 2, none⟩ (.slice o n c)) g ⟨l.frm, l.dst, o, n, c⟩ := by
  unfold TBox at h ⊢
  simp [World.setCell, h, Array.getElem?_modify, TC]
theorem set_other (w : World) (g j k : Nat) (v : Value) (h : k ≠ g) : (w.setCell ⟨g, j, none⟩ v).heap[k]? = w.heap[k]? := Go.Deep.blk_setCell_other w ⟨g, j, none⟩ _ k h
theorem set_size (w : World) (p : Addr) (v : Value) : (w.setCell p v).heap.size = w.heap.size := by simp [World.setCell]
theorem Below.set {n : Nat} {w w' : World} (h : Below n w w') (g j : Nat) (v : Value) (hg : n ≤ g) : Below n w (w'.setCell ⟨g, j, none⟩ v) :=
  h.trans ⟨rfl, rfl, rfl, by rw [set_size]; exact Nat.le_refl _, fun k hk => set_other w' g j k v (by omega)⟩
end Go.Proofs.Ythagachlilnjpaa
