/- RKit -/
import Derived.Test.YtooinnhjeloocaaGreatRows
import Derived.WalkKit
import Derived.WalkSpells
import Derived.Deep.QuietTactic
import Derived.BigQuiet
import Derived.Deep.RegionHeld
import Derived.Lib.QuietBelow
import Derived.Laws.Cells
import Derived.Laws.Tables
import Derived.Laws.CopyOwn
import Derived.Lib.OthersKept
namespace Go.Proofs.YtooinnhjeloocaaGreat
open Go.RowKit

theorem hide {p : Prop} (h : p) : Hid p := h
theorem ret_bool {a b : Bool} (h : a = b) : Ending.returned (.bool a) = .returned (.bool b) := by rw [h]
theorem ret_int {k : IntKind} {a b : Int} (h : a = b) : Ending.returned (.int k a) = .returned (.int k b) := by rw [h]
theorem below_new (w : World) (o : Obj) : Below w.heap.size w (w.alloc o) := (Below.refl _ _).alloc (Nat.le_refl _) _
theorem below_drew1 (w : World) : Below w.heap.size w w.drew := ⟨rfl, rfl, rfl, Nat.le_refl _, fun _ _ => rfl⟩
theorem add_zero (p : Addr) : p.add 0 = p := by unfold Addr.add; split <;> simp_all
theorem block_add (p : Addr) (m : Nat) : (p.add m).block = p.block := by unfold Addr.add; split <;> rfl
theorem add_add (p : Addr) (i j : Nat) : (p.add i).add j = p.add (i + j) := by
  unfold Addr.add; split <;> split <;> simp_all [Nat.add_assoc]
/-- a run -/
structure Rn where
  lo : Int
  hi : Int
instance : DecidableEq Rn := fun a b => decidable_of_iff (a.lo = b.lo ∧ a.hi = b.hi) ⟨fun ⟨h1, h2⟩ => by cases a; cases b; simp_all, fun h => by subst h; exact ⟨rfl, rfl⟩⟩
def rn0 : Rn := ⟨0, 0⟩
instance : Inhabited Rn := ⟨rn0⟩
def RC (r : Rn) : Array Value := #[.int .i64 r.lo, .int .i64 r.hi]
abbrev RV (r : Rn) : Value := .agg (RC r)
theorem RC_size (r : Rn) : (RC r).size = 2 := rfl
theorem RC_one (r : Rn) : ∀ v ∈ (RC r).toList, v.oneCell' = true := by
  intro v hv; simp [RC] at hv; rcases hv with rfl | rfl <;> rfl
theorem cells_RV (r : Rn) : (RV r).cells = RC r := by simp [Value.cells]
theorem zero_RC : (#[.int .i64 0, .int .i64 0] : Array Value) = RC rn0 := rfl
theorem fold_RC (r : Rn) : Array.foldl (fun cs x => cs.setIfInBounds x.snd x.fst) (RC rn0) (RC r).zipIdx 0 2 = RC r := rfl
/-- from the place p on there lies the run -/
structure RnAt (w : World) (p : Addr) (r : Rn) : Prop where
  c0 : w.cell? p = some (.int .i64 r.lo)
  c1 : w.cell? (p.add 1) = some (.int .i64 r.hi)
theorem RnAt.on {w w' : World} {p : Addr} {r : Rn} (S : RnAt w p r) (hb : Below w.heap.size w w') : RnAt w' p r := by
  have h0 := World.block_lt_of_cell? _ _ S.c0
  exact ⟨by rw [hb.cell h0]; exact S.c0, by rw [hb.cell (by rw [block_add]; exact h0)]; exact S.c1⟩
/-- the block g is a variable that holds the run -/
def Box (w : World) (g : Nat) (T : TypeId) (r : Rn) : Prop := w.heap[g]? = some (.cells (RC r) T (0, 0))
theorem Box.lt {w : World} {g : Nat} {T : TypeId} {r : Rn} (h : Box w g T r) : g < w.heap.size := (Array.getElem?_eq_some_iff.1 h).1
theorem Box.at {w : World} {g : Nat} {T : TypeId} {r : Rn} (h : Box w g T r) : RnAt w ⟨g, 0, none⟩ r := by
  unfold Box at h
  refine ⟨?_, ?_⟩ <;> simp [Addr.add, World.cell?, h, RC]
theorem Box.below {w w' : World} {g : Nat} {T : TypeId} {r : Rn} (h : Box w g T r) (hb : Below w.heap.size w w') : Box w' g T r := (hb.block g h.lt).trans h
theorem box_new (w : World) (T : TypeId) (r : Rn) : Box (w.alloc (.cells (RC r) T)) w.heap.size T r := by unfold Box; rw [heap_alloc_new]
def ldR (v : Value) : Sem Value := Instr.loadAt 75 v
theorem ldR_eq (v : Value) : Instr.loadAt 75 v = ldR v := rfl
def stR (p v : Value) : Sem Unit := Instr.storeAt 75 p v
theorem stR_eq (p v : Value) : Instr.storeAt 75 p v = stR p v := rfl
theorem sizeR : (Tryz.prog.info? 75).map (·.size) = some 2 := by kernel_rfl
theorem infoR : (Tryz.prog.info? 75).map (fun i => (i.zero, i.size, i.bytes)) = some (some (.agg #[.int .i64 0, .int .i64 0]), 2, 16) := by kernel_rfl
theorem run_lvR {w : World} {p : Addr} {r : Rn} (A : RnAt w p r) : (loadVar 75 p).run Tryz.prog w = .ok (RV r) w := by
  have hl := run_loadCells_list (P := Tryz.prog) (w := w) p (RC r).toList (fun j v hv => by
    match j, hv with
    | 0, hv => cases hv; rw [add_zero]; exact A.c0
    | 1, hv => cases hv; exact A.c1
    | j + 2, hv => simp [RC] at hv)
  cases hq : Tryz.prog.info? 75 with
  | none => have := sizeR; simp [hq] at this
  | some x =>
    have hs : x.size = 2 := by have := sizeR; simpa [hq] using this
    have hagg : (isAgg 75).run Tryz.prog w = .ok true w := by
      unfold isAgg
      rw [Sem.run_bind, run_underlying Tryz.underlying75 w]
      rfl
    have e2 : (RC r).toList.length = 2 := rfl
    rw [e2] at hl
    simp [loadVar, Sem.run_bind, hagg, sizeOf, typeInfo, hq, hs, hl, RV]
theorem run_ldR {w : World} {p : Addr} {r : Rn} (A : RnAt w p r) : (ldR (.pointer (some p))).run Tryz.prog w = .ok (RV r) w := by
  unfold ldR
  simp only [Instr.loadAt, Instr.sureAddr, Sem.run_bind, Sem.run_pure, Result.andThen]
  exact run_lvR A
theorem run_stR {w : World} {g : Nat} {T : TypeId} {r r' : Rn} (A : Box w g T r) :
    (stR (.pointer (some ⟨g, 0, none⟩)) (RV r')).run Tryz.prog w = .ok () (w.setRow g (RC r')) := by
  unfold stR
  have h := run_storeCells_from (P := Tryz.prog) g T (RC r').toList 0 (RC r) w A (by simp [RC]) (RC_one r')
  cases hq : Tryz.prog.info? 75 with
  | none => have := sizeR; simp [hq] at this
  | some x =>
    have hs : x.size = 2 := by have := sizeR; simpa [hq] using this
    simp only [Instr.storeAt, Instr.sureAddr, Sem.run_bind, Sem.run_pure, Result.andThen, storeVar, sizeOf, typeInfo, cells_RV, RC_size]
    simp at h
    simp [h, hq, hs]
theorem Box.setRow {w : World} {g : Nat} {T : TypeId} {r r' : Rn} (A : Box w g T r) : Box (w.setRow g (RC r')) g T r' := setRow_heap w g _ _ _ _ A
theorem below_setRow {w w' : World} {n g : Nat} {cs : Array Value} (h : Below n w w') (hg : n ≤ g) : Below n w (w'.setRow g cs) :=
  h.trans ⟨rfl, rfl, rfl, by simp [World.setRow], fun k hk => setRow_other _ _ _ _ (by omega)⟩
/-- a variable made and filled -/
theorem made (w : World) (r : Rn) (g : Nat) (hg : w.heap.size = g) : ∃ w' : World, (stR (.pointer (some ⟨g, 0, none⟩)) (RV r)).run Tryz.prog (w.alloc (.cells (RC rn0) 75)) = .ok () w' ∧ Box w' g 75 r ∧ Below w.heap.size w w' ∧ w'.heap.size = w.heap.size + 1 := by
  subst hg
  refine ⟨_, run_stR (box_new w 75 rn0), (box_new w 75 rn0).setRow, below_setRow (below_new w _) (Nat.le_refl _), by simp [World.setRow]⟩
/-- a row of runs -/
structure RSrc (w : World) (ao : Option Addr) (m c : Nat) (L : List Rn) : Prop where
  len : L.length = m
  nil : ao = none → m = 0 ∧ c = 0
  cell : ∀ ad, ao = some ad → ∀ t, t < m → RnAt w (ad.add (t * 2)) (L.getD t rn0)
  cap : m ≤ c
  room : c ≤ maxLen
  big : m ≤ 8796093022207
theorem RSrc.below {w w' : World} {ao : Option Addr} {m c : Nat} {L : List Rn} (h : RSrc w ao m c L) (hb : Below w.heap.size w w') : RSrc w' ao m c L :=
  ⟨h.len, h.nil, fun ad ha t ht => (h.cell ad ha t ht).on hb, h.cap, h.room, h.big⟩
theorem RSrc.at {w : World} {ao : Option Addr} {m c : Nat} {L : List Rn} (h : RSrc w ao m c L) (k : Nat) (hk : k < m) : ∃ ad, ao = some ad ∧ RnAt w (ad.add (k * 2)) (L.getD k rn0) := by
  cases ao with
  | none => have := h.nil rfl; omega
  | some ad => exact ⟨ad, rfl, h.cell ad rfl k hk⟩
theorem RSrc.empty (w : World) : RSrc w none 0 0 [] := ⟨rfl, fun _ => ⟨rfl, rfl⟩, (fun ad h => by cases h), Nat.le_refl _, Nat.zero_le _, by omega⟩
theorem RSrc.spot {w : World} {ad : Addr} {m c : Nat} {L : List Rn} (h : RSrc w (some ad) m c L) (hm : 0 < m) : ∃ b o, ad = ⟨b, o, none⟩ := by
  have := World.cell?_spot (h.cell ad rfl 0 hm).c0
  obtain ⟨b, o, s⟩ := ad
  have hs : s = none := by simpa [Addr.add] using this
  exact ⟨b, o, by rw [hs]⟩
/-- the k-th run's two numbers -/
theorem RSrc.nums {w : World} {b o m c : Nat} {L : List Rn} (h : RSrc w (some ⟨b, o, none⟩) m c L) (k : Nat) (hk : k < m) : w.cell? ⟨b, o + k * 2, none⟩ = some (.int .i64 (L.getD k rn0).lo) ∧ w.cell? ⟨b, o + k * 2 + 1, none⟩ = some (.int .i64 (L.getD k rn0).hi) := by
  have A := h.cell _ rfl k hk
  have h0 := A.c0
  have h1 := A.c1
  rw [Addr.add_lit] at h0 h1
  rw [Addr.add_lit] at h1
  exact ⟨h0, h1⟩
theorem RSrc.tail {w : World} {b o m c : Nat} {r : Rn} {L : List Rn} (h : RSrc w (some ⟨b, o, none⟩) m c (r :: L)) : RSrc w (some ⟨b, o + 2, none⟩) (m - 1) (c - 1) L := by
  have hl := h.len
  simp at hl
  refine ⟨by omega, fun e => (by cases e), fun ad ha t ht => ?_, by have := h.cap; omega, by have := h.room; omega, by have := h.big; omega⟩
  obtain rfl := Option.some.inj ha
  have := h.cell _ rfl (t + 1) (by omega)
  rw [Addr.add_lit] at this ⊢
  rw [show o + 2 + t * 2 = o + (t + 1) * 2 by omega]
  simpa [List.getD] using this
def rcs (L : List Rn) : List Value := (L.map (fun r => (RC r).toList)).flatten
theorem rcs_append (L R : List Rn) : rcs (L ++ R) = rcs L ++ rcs R := by simp [rcs]
theorem rcs_one (r : Rn) : rcs [r] = (RC r).toList := by simp [rcs]
theorem rcs_length (L : List Rn) : (rcs L).length = L.length * 2 := by
  induction L with
  | nil => rfl
  | cons a L ih => have : rcs (a :: L) = (RC a).toList ++ rcs L := rfl; rw [this, List.length_append, ih]; simp [RC]; omega
theorem rcs_at (L : List Rn) (t j : Nat) (ht : t < L.length) (hj : j < 2) : (rcs L)[t * 2 + j]? = (RC (L.getD t rn0)).toList[j]? := by
  induction L generalizing t with
  | nil => simp at ht
  | cons a L ih =>
    have e : rcs (a :: L) = (RC a).toList ++ rcs L := rfl
    cases t with
    | zero => rw [e, List.getElem?_append_left (by simp [RC]; omega)]; simp [List.getD]
    | succ t =>
      rw [e, List.getElem?_append_right (by simp [RC]; omega)]
      have h := ih t (by simpa using ht)
      have e4 : (t + 1) * 2 + j - (RC a).toList.length = t * 2 + j := by simp [RC]; omega
      rw [e4, h]; simp [List.getD]
theorem rcs_onecell (L : List Rn) : ∀ u ∈ rcs L, u.oneCell' = true := by
  intro u hu
  obtain ⟨l, hl, hv⟩ := List.mem_flatten.1 hu
  obtain ⟨e, _, rfl⟩ := List.mem_map.1 hl
  exact RC_one e u hv
/-- a literal -/
theorem lit_rsrc (w : World) (L : List Rn) (C : Array Value) (hC : C = (rcs L).toArray) (T : TypeId) (n : Nat) (hn : L.length = n) (hm : n ≤ 8796093022207) :
    RSrc (w.alloc (.cells C T)) (some ⟨w.heap.size, 0, none⟩) n n L := by
  subst hC hn
  have cell : ∀ t j, t < L.length → j < 2 → (w.alloc (.cells (rcs L).toArray T)).cell? ⟨w.heap.size, t * 2 + j, none⟩ = (RC (L.getD t rn0)).toList[j]? := by
    intro t j ht hj
    rw [World.cell?_alloc_new, List.getElem?_toArray, rcs_at L t j ht hj]
  refine ⟨rfl, fun h => (by cases h), fun ad h t ht => ?_, Nat.le_refl _, by unfold maxLen; omega, hm⟩
  obtain rfl := Option.some.inj h
  refine ⟨?_, ?_⟩
  · rw [Addr.add_lit, Nat.zero_add]; exact cell t 0 ht (by omega)
  · rw [Addr.add_lit, Addr.add_lit, Nat.zero_add]; exact cell t 1 ht (by omega)
/-- the slice owns just these runs, in blocks from B on; below B0 all is as it was -/
structure OwnR (B0 B : Nat) (w w' : World) (ao : Option Addr) (cap : Nat) (acc : List Rn) : Prop where
  own : w'.ownsRow B 75 2 (.slice ao acc.length cap) acc.length (rcs acc)
  below : Below B0 w w'
  hB : B ≤ w'.heap.size
  hB0 : B0 ≤ B
theorem OwnR.nil {B0 B : Nat} {w w' : World} (hb : Below B0 w w') (hB : B ≤ w'.heap.size) (h0 : B0 ≤ B) : OwnR B0 B w w' none 0 [] :=
  ⟨World.ownsRow_nil _ _ _ _, hb, hB, h0⟩
theorem OwnR.append {B0 B : Nat} {w w' : World} {ao : Option Addr} {cap : Nat} {acc : List Rn} (O : OwnR B0 B w w' ao cap acc) (e : Rn) (C : Array Value) (hC : C = RC e) (hlen : acc.length < 8796093022207)
    {ops : Array Oper} {rest : List Oper} {o : Oper} {a : Act} {Q : Exit → Act → World → Prop} (hgd : o.guard = none) (s x : Operand) (ho : o.op = .call { callee := .builtin .append, args := #[s, x], argTypes := #[71, 71] })
    (n : Nat) (hn : acc.length = n) (hs : a.eval s = .slice ao n cap) (hx : a.eval x = .slice (some ⟨w'.heap.size, 0, none⟩) 1 1)
    (hK : ∀ (g cap2 : Nat) (w2 : World), OwnR B0 B w w2 (some ⟨g, 0, none⟩) cap2 (acc ++ [e]) → wpList Tryz.prog ops Q rest (a.put o.dst (.slice (some ⟨g, 0, none⟩) (n + 1) cap2)) w2) :
    wpList Tryz.prog ops Q (o :: rest) a (w'.alloc (.cells C 75)) := by
  subst hn hC
  obtain ⟨i0, hi, hz0, hz1, hz2⟩ := info_parts infoR
  have hB := O.hB
  have hB0 := O.hB0
  refine wpList_append_own _ hgd s x 71 ho B 75 i0 (.agg #[.int .i64 0, .int .i64 0]) 2 16 Tryz.underlying71 hi hz0 hz1 hz2 rfl (by decide) _ acc.length (rcs acc) hs (O.own.alloc _) ⟨w'.heap.size, 0, none⟩ 1 1 (RC e).toList hx (by simp [RC]) ?_ ?_ (by unfold maxLen; omega) (by omega) (by simp; omega) ?_
  · intro j u hj
    rw [Addr.add_lit, Nat.zero_add, World.cell?_alloc_new]
    simpa using hj
  · intro u hu
    exact RC_one e u hu
  · intro v' w2 hown hgrow _
    rcases hown.2 with ⟨h0, h00⟩ | ⟨g, cap2, cur, hv, r⟩
    · omega
    · subst hv
      have hrow : ∀ k, (Value.slice ao acc.length cap).ownBlock = some k → B ≤ k := fun k hk => (O.own.lt k hk).1
      have hsz := hgrow.size
      rw [World.size_alloc] at hsz
      refine hK g cap2 w2 ⟨?_, (O.below.alloc (by omega) _).grown hgrow (by simp; omega) (fun k hk => by have := hrow k hk; omega), by omega, hB0⟩
      rw [List.length_append, rcs_append, rcs_one]; exact hown
theorem OwnR.later {B0 B : Nat} {w w' w2 : World} {ao : Option Addr} {cap : Nat} {acc : List Rn} (O : OwnR B0 B w w' ao cap acc) (hb : Below w'.heap.size w' w2) : OwnR B0 B w w2 ao cap acc := by
  refine ⟨⟨O.own.1, ?_⟩, O.below.trans (hb.mono (Nat.le_trans O.hB0 O.hB)), Nat.le_trans O.hB hb.size, O.hB0⟩
  rcases O.own.2 with h | ⟨g, cap2, cur, hv, hbg, hgg, r⟩
  · exact Or.inl h
  · exact Or.inr ⟨g, cap2, cur, hv, hbg, (hb.block g (Array.getElem?_eq_some_iff.1 hgg).1).trans hgg, r⟩
theorem OwnR.src {B0 B : Nat} {w w' : World} {ao : Option Addr} {cap : Nat} {acc : List Rn} (O : OwnR B0 B w w' ao cap acc) (hl : acc.length ≤ 8796093022207) : RSrc w' ao acc.length cap acc ∧ ∀ ad, ao = some ad → B ≤ ad.block := by
  rcases O.own.2 with ⟨h0, h00⟩ | ⟨g, cap2, cur, hv, hbg, hgg, hnc, hcm, hcsz, htake⟩
  · simp only [Value.slice.injEq] at h0
    obtain ⟨rfl, e0, rfl⟩ := h0
    exact ⟨⟨rfl, fun _ => ⟨h00, rfl⟩, (fun ad h => by cases h), by omega, Nat.zero_le _, hl⟩, fun ad h => (by cases h)⟩
  · simp only [Value.slice.injEq, true_and] at hv
    obtain ⟨rfl, rfl⟩ := hv
    have cell : ∀ t j, t < acc.length → j < 2 → w'.cell? ⟨g, t * 2 + j, none⟩ = (RC (acc.getD t rn0)).toList[j]? := fun t j ht hj => by
      rw [O.own.cellAt (t * 2 + j) (by omega), rcs_at _ t j ht hj]
    refine ⟨⟨rfl, fun h => (by cases h), fun ad h t ht => ?_, hnc, hcm, hl⟩, fun ad h => by obtain rfl := Option.some.inj h; exact hbg⟩
    obtain rfl := Option.some.inj h
    refine ⟨?_, ?_⟩
    · rw [Addr.add_lit, Nat.zero_add]; exact cell t 0 ht (by omega)
    · rw [Addr.add_lit, Addr.add_lit, Nat.zero_add]; exact cell t 1 ht (by omega)
/-- a list is handed back, new; old memory stands -/
def GivesR (w w' : World) (e : Ending) (P : List Rn → Prop) : Prop := ∃ ao n c L, e = .returned (.slice ao n c) ∧ RSrc w' ao n c L ∧ Below w.heap.size w w' ∧ P L
end Go.Proofs.YtooinnhjeloocaaGreat
