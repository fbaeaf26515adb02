/- RKit FTr -/
import Derived.Test.YtnghfnhpjdafmaaRows
import Derived.WalkKit
import Derived.WalkSpells
import Derived.Deep.QuietTactic
import Derived.BigQuiet
import Derived.Deep.RegionHeld
import Derived.Lib.QuietBelow
import Derived.Laws.Cells
import Derived.Laws.Tables
import Derived.Laws.CopyOwn
import Derived.Lib.OthersKept
import Derived.Test.YtnghfnhpjdafmaaSl05
namespace Go.Proofs.Ytnghfnhpjdafmaa
open Go.RowKit

theorem hide {p : Prop} (h : p) : Hid p := h
theorem ret_bool {a b : Bool} (h : a = b) : Ending.returned (.bool a) = .returned (.bool b) := by rw [h]
theorem ret_int {k : IntKind} {a b : Int} (h : a = b) : Ending.returned (.int k a) = .returned (.int k b) := by rw [h]
theorem below_new (w : World) (o : Obj) : Below w.heap.size w (w.alloc o) := (Below.refl _ _).alloc (Nat.le_refl _) _
theorem below_drew1 (w : World) : Below w.heap.size w w.drew := ⟨rfl, rfl, rfl, Nat.le_refl _, fun _ _ => rfl⟩
theorem add_zero (p : Addr) : p.add 0 = p := by unfold Addr.add; split <;> simp_all
theorem block_add (p : Addr) (m : Nat) : (p.add m).block = p.block := by unfold Addr.add; split <;> rfl
theorem add_add (p : Addr) (i j : Nat) : (p.add i).add j = p.add (i + j) := by
  unfold Addr.add; split <;> split <;> simp_all [Nat.add_assoc]
/-- a run -/
structure Rn where
  lo : Int
  hi : Int
instance : DecidableEq Rn := fun a b => decidable_of_iff (a.lo = b.lo ∧ a.hi = b.hi) ⟨fun ⟨h1, h2⟩ => by cases a; cases b; simp_all, fun h => by subst h; exact ⟨rfl, rfl⟩⟩
def rn0 : Rn := ⟨0, 0⟩
instance : Inhabited Rn := ⟨rn0⟩
def RC (r : Rn) : Array Value := #[.int .i64 r.lo, .int .i64 r.hi]
abbrev RV (r : Rn) : Value := .agg (RC r)
theorem RC_size (r : Rn) : (RC r).size = 2 := rfl
theorem RC_one (r : Rn) : ∀ v ∈ (RC r).toList, v.oneCell' = true := by
  intro v hv; simp [RC] at hv; rcases hv with rfl | rfl <;> rfl
theorem cells_RV (r : Rn) : (RV r).cells = RC r := by simp [Value.cells]
theorem zero_RC : (#[.int .i64 0, .int .i64 0] : Array Value) = RC rn0 := rfl
theorem fold_RC (r : Rn) : Array.foldl (fun cs x => cs.setIfInBounds x.snd x.fst) (RC rn0) (RC r).zipIdx 0 2 = RC r := rfl
/-- from the place p on there lies the run -/
structure RnAt (w : World) (p : Addr) (r : Rn) : Prop where
  c0 : w.cell? p = some (.int .i64 r.lo)
  c1 : w.cell? (p.add 1) = some (.int .i64 r.hi)
theorem RnAt.on {w w' : World} {p : Addr} {r : Rn} (S : RnAt w p r) (hb : Below w.heap.size w w') : RnAt w' p r := by
  have h0 := World.block_lt_of_cell? _ _ S.c0
  exact ⟨by rw [hb.cell h0]; exact S.c0, by rw [hb.cell (by rw [block_add]; exact h0)]; exact S.c1⟩
/-- the block g is a variable that holds the run -/
def Box (w : World) (g : Nat) (T : TypeId) (r : Rn) : Prop := w.heap[g]? = some (.cells (RC r) T (0, 0))
theorem Box.lt {w : World} {g : Nat} {T : TypeId} {r : Rn} (h : Box w g T r) : g < w.heap.size := (Array.getElem?_eq_some_iff.1 h).1
theorem Box.at {w : World} {g : Nat} {T : TypeId} {r : Rn} (h : Box w g T r) : RnAt w ⟨g, 0, none⟩ r := by
  unfold Box at h
  refine ⟨?_, ?_⟩ <;> simp [Addr.add, World.cell?, h, RC]
theorem Box.below {w w' : World} {g : Nat} {T : TypeId} {r : Rn} (h : Box w g T r) (hb : Below w.heap.size w w') : Box w' g T r := (hb.block g h.lt).trans h
theorem box_new (w : World) (T : TypeId) (r : Rn) : Box (w.alloc (.cells (RC r) T)) w.heap.size T r := by unfold Box; rw [heap_alloc_new]
def ldR (v : Value) : Sem Value := Instr.loadAt 157 v
theorem ldR_eq (v : Value) : Instr.loadAt 157 v = ldR v := rfl
def stR (p v : Value) : Sem Unit := Instr.storeAt 157 p v
theorem stR_eq (p v : Value) : Instr.storeAt 157 p v = stR p v := rfl
theorem sizeR : (Try.prog.info? 157).map (·.size) = some 2 := by kernel_rfl
theorem infoR : (Try.prog.info? 157).map (fun i => (i.zero, i.size, i.bytes)) = some (some (.agg #[.int .i64 0, .int .i64 0]), 2, 16) := by kernel_rfl
theorem run_lvR {w : World} {p : Addr} {r : Rn} (A : RnAt w p r) : (loadVar 157 p).run Try.prog w = .ok (RV r) w := by
  have hl := run_loadCells_list (P := Try.prog) (w := w) p (RC r).toList (fun j v hv => by
    match j, hv with
    | 0, hv => cases hv; rw [add_zero]; exact A.c0
    | 1, hv => cases hv; exact A.c1
    | j + 2, hv => simp [RC] at hv)
  cases hq : Try.prog.info? 157 with
  | none => have := sizeR; simp [hq] at this
  | some x =>
    have hs : x.size = 2 := by have := sizeR; simpa [hq] using this
    have hagg : (isAgg 157).run Try.prog w = .ok true w := by
      unfold isAgg
      rw [Sem.run_bind, run_underlying Try.underlying157 w]
      rfl
    have e2 : (RC r).toList.length = 2 := rfl
    rw [e2] at hl
    simp [loadVar, Sem.run_bind, hagg, sizeOf, typeInfo, hq, hs, hl, RV]
theorem run_ldR {w : World} {p : Addr} {r : Rn} (A : RnAt w p r) : (ldR (.pointer (some p))).run Try.prog w = .ok (RV r) w := by
  unfold ldR
  simp only [Instr.loadAt, Instr.sureAddr, Sem.run_bind, Sem.run_pure, Result.andThen]
  exact run_lvR A
theorem run_stR {w : World} {g : Nat} {T : TypeId} {r r' : Rn} (A : Box w g T r) :
    (stR (.pointer (some ⟨g, 0, none⟩)) (RV r')).run Try.prog w = .ok () (w.setRow g (RC r')) := by
  unfold stR
  have h := run_storeCells_from (P := Try.prog) g T (RC r').toList 0 (RC r) w A (by simp [RC]) (RC_one r')
  cases hq : Try.prog.info? 157 with
  | none => have := sizeR; simp [hq] at this
  | some x =>
    have hs : x.size = 2 := by have := sizeR; simpa [hq] using this
    simp only [Instr.storeAt, Instr.sureAddr, Sem.run_bind, Sem.run_pure, Result.andThen, storeVar, sizeOf, typeInfo, cells_RV, RC_size]
    simp at h
    simp [h, hq, hs]
theorem Box.setRow {w : World} {g : Nat} {T : TypeId} {r r' : Rn} (A : Box w g T r) : Box (w.setRow g (RC r')) g T r' := setRow_heap w g _ _ _ _ A
theorem below_setRow {w w' : World} {n g : Nat} {cs : Array Value} (h : Below n w w') (hg : n ≤ g) : Below n w (w'.setRow g cs) :=
  h.trans ⟨rfl, rfl, rfl, by simp [World.setRow], fun k hk => setRow_other _ _ _ _ (by omega)⟩
/-- a variable made and filled -/
theorem made (w : World) (r : Rn) (g : Nat) (hg : w.heap.size = g) : ∃ w' : World, (stR (.pointer (some ⟨g, 0, none⟩)) (RV r)).run Try.prog (w.alloc (.cells (RC rn0) 157)) = .ok () w' ∧ Box w' g 157 r ∧ Below w.heap.size w w' ∧ w'.heap.size = w.heap.size + 1 := by
  subst hg
  refine ⟨_, run_stR (box_new w 157 rn0), (box_new w 157 rn0).setRow, below_setRow (below_new w _) (Nat.le_refl _), by simp [World.setRow]⟩
/-- a row of runs -/
structure RSrc (w : World) (ao : Option Addr) (m c : Nat) (L : List Rn) : Prop where
  len : L.length = m
  nil : ao = none → m = 0 ∧ c = 0
  cell : ∀ ad, ao = some ad → ∀ t, t < m → RnAt w (ad.add (t * 2)) (L.getD t rn0)
  cap : m ≤ c
  room : c ≤ maxLen
  big : m ≤ 8796093022207
theorem RSrc.below {w w' : World} {ao : Option Addr} {m c : Nat} {L : List Rn} (h : RSrc w ao m c L) (hb : Below w.heap.size w w') : RSrc w' ao m c L :=
  ⟨h.len, h.nil, fun ad ha t ht => (h.cell ad ha t ht).on hb, h.cap, h.room, h.big⟩
theorem RSrc.at {w : World} {ao : Option Addr} {m c : Nat} {L : List Rn} (h : RSrc w ao m c L) (k : Nat) (hk : k < m) : ∃ ad, ao = some ad ∧ RnAt w (ad.add (k * 2)) (L.getD k rn0) := by
  cases ao with
  | none => have := h.nil rfl; omega
  | some ad => exact ⟨ad, rfl, h.cell ad rfl k hk⟩
theorem RSrc.empty (w : World) : RSrc w none 0 0 [] := ⟨rfl, fun _ => ⟨rfl, rfl⟩, (fun ad h => by cases h), Nat.le_refl _, Nat.zero_le _, by omega⟩
theorem RSrc.spot {w : World} {ad : Addr} {m c : Nat} {L : List Rn} (h : RSrc w (some ad) m c L) (hm : 0 < m) : ∃ b o, ad = ⟨b, o, none⟩ := by
  have := World.cell?_spot (h.cell ad rfl 0 hm).c0
  obtain ⟨b, o, s⟩ := ad
  have hs : s = none := by simpa [Addr.add] using this
  exact ⟨b, o, by rw [hs]⟩
/-- the k-th run's two numbers -/
theorem RSrc.nums {w : World} {b o m c : Nat} {L : List Rn} (h : RSrc w (some ⟨b, o, none⟩) m c L) (k : Nat) (hk : k < m) : w.cell? ⟨b, o + k * 2, none⟩ = some (.int .i64 (L.getD k rn0).lo) ∧ w.cell? ⟨b, o + k * 2 + 1, none⟩ = some (.int .i64 (L.getD k rn0).hi) := by
  have A := h.cell _ rfl k hk
  have h0 := A.c0
  have h1 := A.c1
  rw [Addr.add_lit] at h0 h1
  rw [Addr.add_lit] at h1
  exact ⟨h0, h1⟩
theorem RSrc.tail {w : World} {b o m c : Nat} {r : Rn} {L : List Rn} (h : RSrc w (some ⟨b, o, none⟩) m c (r :: L)) : RSrc w (some ⟨b, o + 2, none⟩) (m - 1) (c - 1) L := by
  have hl := h.len
  simp at hl
  refine ⟨by omega, fun e => (by cases e), fun ad ha t ht => ?_, by have := h.cap; omega, by have := h.room; omega, by have := h.big; omega⟩
  obtain rfl := Option.some.inj ha
  have := h.cell _ rfl (t + 1) (by omega)
  rw [Addr.add_lit] at this ⊢
  rw [show o + 2 + t * 2 = o + (t + 1) * 2 by omega]
  simpa [List.getD] using this
def rcs (L : List Rn) : List Value := (L.map (fun r => (RC r).toList)).flatten
theorem rcs_append (L R : List Rn) : rcs (L ++ R) = rcs L ++ rcs R := by simp [rcs]
theorem rcs_one (r : Rn) : rcs [r] = (RC r).toList := by simp [rcs]
theorem rcs_length (L : List Rn) : (rcs L).length = L.length * 2 := by
  induction L with
  | nil => rfl
  | cons a L ih => have : rcs (a :: L) = (RC a).toList ++ rcs L := rfl; rw [this, List.length_append, ih]; simp [RC]; omega
theorem rcs_at (L : List Rn) (t j : Nat) (ht : t < L.length) (hj : j < 2) : (rcs L)[t * 2 + j]? = (RC (L.getD t rn0)).toList[j]? := by
  induction L generalizing t with
  | nil => simp at ht
  | cons a L ih =>
    have e : rcs (a :: L) = (RC a).toList ++ rcs L := rfl
    cases t with
    | zero => rw [e, List.getElem?_append_left (by simp [RC]; omega)]; simp [List.getD]
    | succ t =>
      rw [e, List.getElem?_append_right (by simp [RC]; omega)]
      have h := ih t (by simpa using ht)
      have e4 : (t + 1) * 2 + j - (RC a).toList.length = t * 2 + j := by simp [RC]; omega
      rw [e4, h]; simp [List.getD]
theorem rcs_onecell (L : List Rn) : ∀ u ∈ rcs L, u.oneCell' = true := by
  intro u hu
  obtain ⟨l, hl, hv⟩ := List.mem_flatten.1 hu
  obtain ⟨e, _, rfl⟩ := List.mem_map.1 hl
  exact RC_one e u hv
/-- a literal -/
theorem lit_rsrc (w : World) (L : List Rn) (C : Array Value) (hC : C = (rcs L).toArray) (T : TypeId) (n : Nat) (hn : L.length = n) (hm : n ≤ 8796093022207) :
    RSrc (w.alloc (.cells C T)) (some ⟨w.heap.size, 0, none⟩) n n L := by
  subst hC hn
  have cell : ∀ t j, t < L.length → j < 2 → (w.alloc (.cells (rcs L).toArray T)).cell? ⟨w.heap.size, t * 2 + j, none⟩ = (RC (L.getD t rn0)).toList[j]? := by
    intro t j ht hj
    rw [World.cell?_alloc_new, List.getElem?_toArray, rcs_at L t j ht hj]
  refine ⟨rfl, fun h => (by cases h), fun ad h t ht => ?_, Nat.le_refl _, by unfold maxLen; omega, hm⟩
  obtain rfl := Option.some.inj h
  refine ⟨?_, ?_⟩
  · rw [Addr.add_lit, Nat.zero_add]; exact cell t 0 ht (by omega)
  · rw [Addr.add_lit, Addr.add_lit, Nat.zero_add]; exact cell t 1 ht (by omega)
/-- the slice owns just these runs, in blocks from B on; below B0 all is as it was -/
structure OwnR (B0 B : Nat) (w w' : World) (ao : Option Addr) (cap : Nat) (acc : List Rn) : Prop where
  own : w'.ownsRow B 157 2 (.slice ao acc.length cap) acc.length (rcs acc)
  below : Below B0 w w'
  hB : B ≤ w'.heap.size
  hB0 : B0 ≤ B
theorem OwnR.nil {B0 B : Nat} {w w' : World} (hb : Below B0 w w') (hB : B ≤ w'.heap.size) (h0 : B0 ≤ B) : OwnR B0 B w w' none 0 [] :=
  ⟨World.ownsRow_nil _ _ _ _, hb, hB, h0⟩
theorem OwnR.append {B0 B : Nat} {w w' : World} {ao : Option Addr} {cap : Nat} {acc : List Rn} (O : OwnR B0 B w w' ao cap acc) (e : Rn) (C : Array Value) (hC : C = RC e) (hlen : acc.length < 8796093022207)
    {ops : Array Oper} {rest : List Oper} {o : Oper} {a : Act} {Q : Exit → Act → World → Prop} (hgd : o.guard = none) (s x : Operand) (ho : o.op = .call { callee := .builtin .append, args := #[s, x], argTypes := #[86, 86] })
    (n : Nat) (hn : acc.length = n) (hs : a.eval s = .slice ao n cap) (hx : a.eval x = .slice (some ⟨w'.heap.size, 0, none⟩) 1 1)
    (hK : ∀ (g cap2 : Nat) (w2 : World), OwnR B0 B w w2 (some ⟨g, 0, none⟩) cap2 (acc ++ [e]) → wpList Try.prog ops Q rest (a.put o.dst (.slice (some ⟨g, 0, none⟩) (n + 1) cap2)) w2) :
    wpList Try.prog ops Q (o :: rest) a (w'.alloc (.cells C 157)) := by
  subst hn hC
  obtain ⟨i0, hi, hz0, hz1, hz2⟩ := info_parts infoR
  have hB := O.hB
  have hB0 := O.hB0
  refine wpList_append_own _ hgd s x 86 ho B 157 i0 (.agg #[.int .i64 0, .int .i64 0]) 2 16 Try.underlying86 hi hz0 hz1 hz2 rfl (by decide) _ acc.length (rcs acc) hs (O.own.alloc _) ⟨w'.heap.size, 0, none⟩ 1 1 (RC e).toList hx (by simp [RC]) ?_ ?_ (by unfold maxLen; omega) (by omega) (by simp; omega) ?_
  · intro j u hj
    rw [Addr.add_lit, Nat.zero_add, World.cell?_alloc_new]
    simpa using hj
  · intro u hu
    exact RC_one e u hu
  · intro v' w2 hown hgrow _
    rcases hown.2 with ⟨h0, h00⟩ | ⟨g, cap2, cur, hv, r⟩
    · omega
    · subst hv
      have hrow : ∀ k, (Value.slice ao acc.length cap).ownBlock = some k → B ≤ k := fun k hk => (O.own.lt k hk).1
      have hsz := hgrow.size
      rw [World.size_alloc] at hsz
      refine hK g cap2 w2 ⟨?_, (O.below.alloc (by omega) _).grown hgrow (by simp; omega) (fun k hk => by have := hrow k hk; omega), by omega, hB0⟩
      rw [List.length_append, rcs_append, rcs_one]; exact hown
theorem OwnR.later {B0 B : Nat} {w w' w2 : World} {ao : Option Addr} {cap : Nat} {acc : List Rn} (O : OwnR B0 B w w' ao cap acc) (hb : Below w'.heap.size w' w2) : OwnR B0 B w w2 ao cap acc := by
  refine ⟨⟨O.own.1, ?_⟩, O.below.trans (hb.mono (Nat.le_trans O.hB0 O.hB)), Nat.le_trans O.hB hb.size, O.hB0⟩
  rcases O.own.2 with h | ⟨g, cap2, cur, hv, hbg, hgg, r⟩
  · exact Or.inl h
  · exact Or.inr ⟨g, cap2, cur, hv, hbg, (hb.block g (Array.getElem?_eq_some_iff.1 hgg).1).trans hgg, r⟩
theorem OwnR.src {B0 B : Nat} {w w' : World} {ao : Option Addr} {cap : Nat} {acc : List Rn} (O : OwnR B0 B w w' ao cap acc) (hl : acc.length ≤ 8796093022207) : RSrc w' ao acc.length cap acc ∧ ∀ ad, ao = some ad → B ≤ ad.block := by
  rcases O.own.2 with ⟨h0, h00⟩ | ⟨g, cap2, cur, hv, hbg, hgg, hnc, hcm, hcsz, htake⟩
  · simp only [Value.slice.injEq] at h0
    obtain ⟨rfl, e0, rfl⟩ := h0
    exact ⟨⟨rfl, fun _ => ⟨h00, rfl⟩, (fun ad h => by cases h), by omega, Nat.zero_le _, hl⟩, fun ad h => (by cases h)⟩
  · simp only [Value.slice.injEq, true_and] at hv
    obtain ⟨rfl, rfl⟩ := hv
    have cell : ∀ t j, t < acc.length → j < 2 → w'.cell? ⟨g, t * 2 + j, none⟩ = (RC (acc.getD t rn0)).toList[j]? := fun t j ht hj => by
      rw [O.own.cellAt (t * 2 + j) (by omega), rcs_at _ t j ht hj]
    refine ⟨⟨rfl, fun h => (by cases h), fun ad h t ht => ?_, hnc, hcm, hl⟩, fun ad h => by obtain rfl := Option.some.inj h; exact hbg⟩
    obtain rfl := Option.some.inj h
    refine ⟨?_, ?_⟩
    · rw [Addr.add_lit, Nat.zero_add]; exact cell t 0 ht (by omega)
    · rw [Addr.add_lit, Addr.add_lit, Nat.zero_add]; exact cell t 1 ht (by omega)
/-- a list is handed back, new; old memory stands -/
def GivesR (w w' : World) (e : Ending) (P : List Rn → Prop) : Prop := ∃ ao n c L, e = .returned (.slice ao n c) ∧ RSrc w' ao n c L ∧ Below w.heap.size w w' ∧ P L
end Go.Proofs.Ytnghfnhpjdafmaa
namespace Go.Proofs.Ytnghfnhpjdafmaa
open Go.RowKit

/-- a trail's cells -/
def TC (gap r0 : Int) (T : Nat → Int) : List Value := .int .i64 gap :: .int .i64 r0 :: (List.range 16).map fun k => .int .i64 (T k)
theorem TC_length (gap r0 : Int) (T : Nat → Int) : (TC gap r0 T).length = 18 := by simp [TC]
theorem TC_at (gap r0 : Int) (T : Nat → Int) (k : Nat) (h : k < 16) : (TC gap r0 T)[2 + k]? = some (.int .i64 (T k)) := by
  rw [Nat.add_comm]
  simp [TC, h]
theorem TC_congr {gap r0 : Int} {T T' : Nat → Int} (h : ∀ k, k < 16 → T k = T' k) : TC gap r0 T = TC gap r0 T' := by
  unfold TC
  congr 2
  exact List.map_congr_left fun k hk => by rw [h k (List.mem_range.1 hk)]
def TrB (w : World) (g : Nat) (gap r0 : Int) (T : Nat → Int) : Prop := w.heap[g]? = some (.cells (TC gap r0 T).toArray 210 (0, 0))
variable {w w' : World} {g : Nat} {gap r0 : Int} {T : Nat → Int}
theorem TrB.lt (h : TrB w g gap r0 T) : g < w.heap.size := (Array.getElem?_eq_some_iff.1 h).1
theorem TrB.below (h : TrB w g gap r0 T) (hb : Below w.heap.size w w') : TrB w' g gap r0 T := (hb.block g h.lt).trans h
theorem TrB.c0 (h : TrB w g gap r0 T) : w.cell? ⟨g, 0, none⟩ = some (.int .i64 gap) := by unfold TrB at h; simp [World.cell?, h, TC]
theorem TrB.c1 (h : TrB w g gap r0 T) : w.cell? ⟨g, 1, none⟩ = some (.int .i64 r0) := by unfold TrB at h; simp [World.cell?, h, TC]
theorem TrB.c2 (h : TrB w g gap r0 T) (k : Nat) (hk : k < 16) : w.cell? ⟨g, 2 + k, none⟩ = some (.int .i64 (T k)) := by
  unfold TrB at h
  have := TC_at gap r0 T k hk
  simp only [World.cell?, h]
  simpa using this
theorem TrB.frozen (h : TrB w g gap r0 T) (j : Nat) : w.frozen? ⟨g, j, none⟩ = false := by unfold TrB at h; simp [World.frozen?, h]
theorem TC_set1 (gap r0 x : Int) (T : Nat → Int) : (TC gap r0 T).set 1 (.int .i64 x) = TC gap x T := by simp [TC]
theorem TC_set2 (gap r0 x : Int) (T : Nat → Int) (k : Nat) (hk : k < 16) : (TC gap r0 T).set (2 + k) (.int .i64 x) = TC gap r0 (fun j => if j = k then x else T j) := by
  apply List.ext_getElem?
  intro i
  rw [List.getElem?_set]
  by_cases h0 : 2 + k = i
  · subst h0
    rw [if_pos rfl, TC_length, if_pos (by omega), TC_at _ _ _ k hk, if_pos rfl]
  · rw [if_neg h0]
    match i with
    | 0 => rfl
    | 1 => rfl
    | j + 2 =>
      by_cases hj : j < 16
      · have e : j + 2 = 2 + j := by omega
        rw [e, TC_at _ _ _ j hj, TC_at _ _ _ j hj, if_neg (by omega)]
      · rw [List.getElem?_eq_none (by rw [TC_length]; omega), List.getElem?_eq_none (by rw [TC_length]; omega)]
theorem TrB.set1 (h : TrB w g gap r0 T) (x : Int) : TrB (w.setCell ⟨g, 1, none⟩ (.int .i64 x)) g gap x T := by
  have := U.set_heap w g _ _ _ 1 (.int .i64 x) h
  unfold TrB
  rw [this, ← TC_set1 gap r0 x T]
  simp
theorem TrB.set2 (h : TrB w g gap r0 T) (k : Nat) (hk : k < 16) (x : Int) : TrB (w.setCell ⟨g, 2 + k, none⟩ (.int .i64 x)) g gap r0 (fun j => if j = k then x else T j) := by
  have := U.set_heap w g _ _ _ (2 + k) (.int .i64 x) h
  unfold TrB
  rw [this, ← TC_set2 gap r0 x T k hk]
  simp
theorem TC_zero (gap : Int) : (#[.int .i64 gap, .int .i64 0, .int .i64 0, .int .i64 0, .int .i64 0, .int .i64 0, .int .i64 0, .int .i64 0, .int .i64 0, .int .i64 0, .int .i64 0, .int .i64 0, .int .i64 0, .int .i64 0, .int .i64 0, .int .i64 0, .int .i64 0, .int .i64 0] : Array Value) = (TC gap 0 (fun _ => 0)).toArray := rfl
theorem TC_splice (gap : Int) (Z : List Int) (h : Z.length ≤ 16) : splice (TC gap 0 (fun _ => 0)) 2 (Z.map fun x => Value.int .i64 x) = TC gap 0 (fun k => Z.getD k 0) := by
  apply List.ext_getElem?
  intro i
  have hl : ((TC gap 0 (fun _ => 0)).take 2).length = 2 := by rw [List.length_take, TC_length]; rfl
  unfold splice
  match i with
  | 0 => rfl
  | 1 => rfl
  | j + 2 =>
    rw [List.getElem?_append_right (by omega), hl, show j + 2 - 2 = j by omega]
    by_cases hj : j < 16
    · rw [show j + 2 = 2 + j by omega, TC_at _ _ _ j hj]
      by_cases hz : j < Z.length
      · rw [List.getElem?_append_left (by simpa using hz)]
        simp [hz]
      · rw [List.getElem?_append_right (by simp; omega)]
        simp only [List.length_map]
        rw [List.getElem?_drop, show 2 + Z.length + (j - Z.length) = 2 + j by omega, TC_at _ _ _ j hj]
        simp [hz]
    · rw [List.getElem?_eq_none (by simp [TC_length]; omega), List.getElem?_eq_none (by rw [TC_length]; omega)]
set_option maxRecDepth 100000 in
theorem newTrail_any (gap : Int) (ao : Option Addr) (n c : Nat) (Z : List Int) (w : World) (hl : Z.length = n) (hn : n ≤ 16) (hnil : ao = none → n = 0) (hs : ∀ ad, ao = some ad → ∀ t, t < n → w.cell? (ad.add t) = some (.int .i64 (Z.getD t 0))) :
    Calls Try.prog 135 #[.int .i64 gap, .slice ao n c] w fun e w' => e = .returned (U.ptr w.heap.size) ∧ TrB w' w.heap.size gap 0 (fun k => Z.getD k 0) ∧ Below w.heap.size w w' := by
  have b1 := U.below_new w (.cells (TC gap 0 (fun _ => 0)).toArray 210)
  have hx := heap_alloc_new w (.cells (TC gap 0 (fun _ => 0)).toArray 210)
  have HB := hide b1
  have HX := hide hx
  have HSr : Hid (0 < (Z.map fun x => Value.int .i64 x).length → (some ⟨w.heap.size, 2, none⟩ : Option Addr) = some ⟨w.heap.size, 2, none⟩ ∧ ∃ ad, ao = some ad ∧ ∀ j v, (Z.map fun x => Value.int .i64 x)[j]? = some v → (w.alloc (.cells (TC gap 0 (fun _ => 0)).toArray 210)).cell? (ad.add j) = some v) := by
    intro h0
    refine ⟨rfl, ?_⟩
    cases ao with
    | none => have := hnil rfl; simp at h0; omega
    | some ad =>
      refine ⟨ad, rfl, fun j v hv => ?_⟩
      rw [List.getElem?_map, Option.map_eq_some_iff] at hv
      obtain ⟨y, hy, rfl⟩ := hv
      obtain ⟨hj, rfl⟩ := List.getElem?_eq_some_iff.1 hy
      have := hs ad rfl j (by omega)
      rw [b1.cell (World.block_lt_of_cell? _ _ this), this, List.getD_eq_getElem?_getD, List.getElem?_eq_getElem hj]
      rfl
  have HL : Hid (Z.length = n ∧ n ≤ 16) := ⟨hl, hn⟩
  have hz := TC_zero gap
  obtain ⟨w5, hcp, hg5, hb5⟩ : ∃ w5, (Builtin.copy_ #[22, 22] 3 #[.slice (some ⟨w.heap.size, 2, none⟩) 16 16, .slice ao n c]).run Try.prog (w.alloc (.cells (TC gap 0 (fun _ => 0)).toArray 210)) = .ok (goInt n) w5 ∧ TrB w5 w.heap.size gap 0 (fun k => Z.getD k 0) ∧ Below w.heap.size w w5 := by
    by_cases h0 : n = 0
    · subst h0
      have h1 := run_copy_none (P := Try.prog) (w.alloc (.cells (TC gap 0 (fun _ => 0)).toArray 210)) 22 22 3 3 (some ⟨w.heap.size, 2, none⟩) ao 16 16 0 c Try.underlying22 (by kernel_rfl) (by rfl)
      refine ⟨_, h1, ?_, b1⟩
      obtain rfl : Z = [] := List.eq_nil_of_length_eq_zero hl
      exact hx
    · have hcs : 0 < (Z.map fun x => Value.int .i64 x).length := by simp; omega
      obtain ⟨-, ad, rfl, hsrc⟩ := HSr.out hcs
      have h1 := run_copy_row (P := Try.prog) (w.alloc (.cells (TC gap 0 (fun _ => 0)).toArray 210)) 22 22 3 3 w.heap.size 2 16 16 ad n c (TC gap 0 (fun _ => 0)).toArray 210 (Z.map fun x => Value.int .i64 x) Try.underlying22 (by kernel_rfl) hx (by simp only [List.length_map, hl]; exact (Nat.min_eq_left hn).symm) hsrc (by simp [TC_length]; omega) (by simp [Value.oneCell'])
      have el : (Z.map fun x => Value.int .i64 x).length = n := by simp [hl]
      rw [el] at h1
      refine ⟨_, h1, ?_, b1.trans (below_setRow ((Below.refl _ _)) (Nat.le_of_eq (by simp)) )⟩
      have h2 := setRow_heap (w.alloc (.cells (TC gap 0 (fun _ => 0)).toArray 210)) w.heap.size _ ((splice (TC gap 0 (fun _ => 0)) 2 (Z.map fun x => Value.int .i64 x)).toArray) 210 _ hx
      rw [TC_splice gap Z (by omega)] at h2
      rw [← TC_splice gap Z (by omega)] at h2
      have h3 := TC_splice gap Z (by omega)
      unfold TrB
      rw [← h3]
      unfold splice at h2 ⊢
      rw [el] at h2 ⊢
      exact h2
  have HF := hide hg5
  have HB5 := hide hb5
  clear b1 hx hs hnil hl hn hg5 hb5 HSr HX HB
  go_enter Try.func135, Try.ntmps135
  go_wp2_with fail
  go_ret
  exact ⟨rfl, HF.out, HB5.out⟩
set_option maxRecDepth 100000 in
theorem least_any (h : TrB w g gap r0 T) (k : Nat) (hk : k < 16) (hg : 0 ≤ gap ∧ gap ≤ 1000) (hT : 0 ≤ T k ∧ T k ≤ 1000000000) : Calls Try.prog 146 #[U.ptr g, .int .i64 (k : Int)] w fun e w' => e = .returned (.int .i64 (T k + gap)) ∧ Below w.heap.size w w' := by
  have HX := hide h
  obtain ⟨x, hx⟩ : ∃ x, T k = x := ⟨_, rfl⟩
  have hw : IntKind.i64.wrap (x + gap) = x + gap := by rw [IntKind.wrap_i64]; omega
  have Hx := hide hx
  have hk16 : k < 16 := hk
  have hkI : (k : Int) < 16 := by omega
  clear h
  rw [hx]
  clear hx
  go_enter Try.func146, Try.ntmps146
  go_wp2_with fail
  refine wp_region_held_drew (S := fun v => v.cell? ⟨g, 0, none⟩ = some (.int .i64 gap) ∧ v.cell? ⟨g, 2 + k, none⟩ = some (.int .i64 x)) (by kernel_rfl) (⟨(HX.out.below (U.below_drew1 w)).c0, by have := (HX.out.below (U.below_drew1 w)).c2 k hk16; rw [Hx.out] at this; exact this⟩) (fun hHeld => ?_)
  refine wpAnyH_take (i := 0) (oi := { dst := some 5, op := Op.move (Operand.tmp 0), type := 199, pos := "trail.go:26", after := #[], guard := none }) (v := ?_) rfl (by kernel_rfl) (by kernel_rfl) (by kernel_rfl) (fun _ _ _ h => h) (Or.inl ⟨by rfl, ?_⟩) (by assumption) ?_
  rotate_left
  · (intro w hSw; (try dsimp only at hSw); go_simp); first | done | with_reducible rfl
  simp only [Act.put, List.setIfInBounds_toArray, List.set_cons_zero, List.set_cons_succ]
  refine wpAnyH_take (i := 1) (oi := { dst := some 6, op := Op.move (Operand.tmp 1), type := 3, pos := "trail.go:26", after := #[], guard := none }) (v := ?_) rfl (by kernel_rfl) (by kernel_rfl) (by kernel_rfl) (fun _ _ _ h => h) (Or.inl ⟨by rfl, ?_⟩) (by assumption) ?_
  rotate_left
  · (intro w hSw; (try dsimp only at hSw); go_simp); first | done | with_reducible rfl
  simp only [Act.put, List.setIfInBounds_toArray, List.set_cons_zero, List.set_cons_succ]
  refine wpAnyH_take (i := 2) (oi := { dst := some 7, op := Op.nilCheck (Operand.tmp 5), type := 0, pos := "trail.go:26", after := #[{ on := 0, ground := Ground.data }], guard := none }) (v := ?_) rfl (by kernel_rfl) (by kernel_rfl) (by kernel_rfl) (fun _ _ _ h => h) (Or.inl ⟨by rfl, ?_⟩) (by assumption) ?_
  rotate_left
  · (intro w hSw; (try dsimp only at hSw); go_simp); first | done | with_reducible rfl
  simp only [Act.put, List.setIfInBounds_toArray, List.set_cons_zero, List.set_cons_succ]
  refine wpAnyH_take (i := 3) (oi := { dst := some 8, op := Op.fieldAddr 210 (Operand.tmp 7) 2, type := 0, pos := "trail.go:26", after := #[{ on := 2, ground := Ground.data }], guard := none }) (v := ?_) rfl (by kernel_rfl) (by kernel_rfl) (by kernel_rfl) (fun _ _ _ h => h) (Or.inl ⟨by rfl, ?_⟩) (by assumption) ?_
  rotate_left
  · (intro w hSw; (try dsimp only at hSw); go_simp); first | done | with_reducible rfl
  simp only [Act.put, List.setIfInBounds_toArray, List.set_cons_zero, List.set_cons_succ]
  refine wpAnyH_take (i := 4) (oi := { dst := some 9, op := Op.indexAddr 158 (Operand.tmp 8) (Operand.tmp 6), type := 0, pos := "trail.go:26", after := #[{ on := 3, ground := Ground.data }, { on := 1, ground := Ground.data }], guard := none }) (v := ?_) rfl (by kernel_rfl) (by kernel_rfl) (by kernel_rfl) (fun _ _ _ h => h) (Or.inl ⟨by rfl, ?_⟩) (by assumption) ?_
  rotate_left
  · (intro w hSw; (try dsimp only at hSw); go_simp); first | done | with_reducible rfl
  simp only [Act.put, List.setIfInBounds_toArray, List.set_cons_zero, List.set_cons_succ]
  refine wpAnyH_take (i := 5) (oi := { dst := some 10, op := Op.load 3 (Operand.tmp 9), type := 3, pos := "trail.go:26", after := #[{ on := 4, ground := Ground.data }], guard := none }) (v := ?_) rfl (by kernel_rfl) (by kernel_rfl) (by kernel_rfl) (fun _ _ _ h => h) (Or.inl ⟨by rfl, ?_⟩) (by assumption) ?_
  rotate_left
  · (intro w hSw; (try dsimp only at hSw); go_simp); first | done | with_reducible rfl
  simp only [Act.put, List.setIfInBounds_toArray, List.set_cons_zero, List.set_cons_succ]
  refine wpAnyH_take (i := 6) (oi := { dst := some 11, op := Op.move (Operand.tmp 0), type := 199, pos := "trail.go:26", after := #[], guard := none }) (v := ?_) rfl (by kernel_rfl) (by kernel_rfl) (by kernel_rfl) (fun _ _ _ h => h) (Or.inl ⟨by rfl, ?_⟩) (by assumption) ?_
  rotate_left
  · (intro w hSw; (try dsimp only at hSw); go_simp); first | done | with_reducible rfl
  simp only [Act.put, List.setIfInBounds_toArray, List.set_cons_zero, List.set_cons_succ]
  refine wpAnyH_take (i := 7) (oi := { dst := some 12, op := Op.nilCheck (Operand.tmp 11), type := 0, pos := "trail.go:26", after := #[{ on := 6, ground := Ground.data }], guard := none }) (v := ?_) rfl (by kernel_rfl) (by kernel_rfl) (by kernel_rfl) (fun _ _ _ h => h) (Or.inl ⟨by rfl, ?_⟩) (by assumption) ?_
  rotate_left
  · (intro w hSw; (try dsimp only at hSw); go_simp); first | done | with_reducible rfl
  simp only [Act.put, List.setIfInBounds_toArray, List.set_cons_zero, List.set_cons_succ]
  refine wpAnyH_take (i := 8) (oi := { dst := some 13, op := Op.fieldAddr 210 (Operand.tmp 12) 0, type := 0, pos := "trail.go:26", after := #[{ on := 7, ground := Ground.data }], guard := none }) (v := ?_) rfl (by kernel_rfl) (by kernel_rfl) (by kernel_rfl) (fun _ _ _ h => h) (Or.inl ⟨by rfl, ?_⟩) (by assumption) ?_
  rotate_left
  · (intro w hSw; (try dsimp only at hSw); go_simp); first | done | with_reducible rfl
  simp only [Act.put, List.setIfInBounds_toArray, List.set_cons_zero, List.set_cons_succ]
  refine wpAnyH_take (i := 9) (oi := { dst := some 14, op := Op.load 3 (Operand.tmp 13), type := 3, pos := "trail.go:26", after := #[{ on := 8, ground := Ground.data }], guard := none }) (v := ?_) rfl (by kernel_rfl) (by kernel_rfl) (by kernel_rfl) (fun _ _ _ h => h) (Or.inl ⟨by rfl, ?_⟩) (by assumption) ?_
  rotate_left
  · (intro w hSw; (try dsimp only at hSw); go_simp); first | done | with_reducible rfl
  simp only [Act.put, List.setIfInBounds_toArray, List.set_cons_zero, List.set_cons_succ]
  refine wpAnyH_take (i := 10) (oi := { dst := some 15, op := Op.binOp BinOp.add 3 (Operand.tmp 10) (Operand.tmp 14) 3, type := 3, pos := "trail.go:26", after := #[{ on := 5, ground := Ground.data }, { on := 9, ground := Ground.data }], guard := none }) (v := ?_) rfl (by kernel_rfl) (by kernel_rfl) (by kernel_rfl) (fun _ _ _ h => h) (Or.inl ⟨by rfl, ?_⟩) (by assumption) ?_
  rotate_left
  · (intro w hSw; (try dsimp only at hSw); go_simp); first | done | with_reducible rfl
  simp only [Act.put, List.setIfInBounds_toArray, List.set_cons_zero, List.set_cons_succ]
  refine wpAnyH_take (i := 11) (oi := { dst := some 4, op := Op.assign (Operand.tmp 15), type := 3, pos := "trail.go:26", after := #[{ on := 10, ground := Ground.data }, { on := 0, ground := Ground.phase }, { on := 1, ground := Ground.phase }, { on := 2, ground := Ground.phase }, { on := 3, ground := Ground.phase }, { on := 4, ground := Ground.phase }, { on := 5, ground := Ground.phase }, { on := 6, ground := Ground.phase }, { on := 7, ground := Ground.phase }, { on := 8, ground := Ground.phase }, { on := 9, ground := Ground.phase }, { on := 10, ground := Ground.phase }], guard := none }) (v := ?_) rfl (by kernel_rfl) (by kernel_rfl) (by kernel_rfl) (fun _ _ _ h => h) (Or.inl ⟨by rfl, ?_⟩) (by assumption) ?_
  rotate_left
  · (intro w hSw; (try dsimp only at hSw); go_simp); first | done | with_reducible rfl
  simp only [Act.put, List.setIfInBounds_toArray, List.set_cons_zero, List.set_cons_succ]
  refine wpAnyH_done (by kernel_rfl) ?_ _
  clear hHeld
  go_wp2_with fail
  go_ret
  exact ⟨rfl, U.below_drew1 w⟩
set_option maxRecDepth 100000 in
theorem pass_any (h : TrB w g gap r0 T) (k : Nat) (hk : k < 16) (x : Int) : Calls Try.prog 137 #[U.ptr g, .int .i64 (k : Int), .int .i64 x] w fun e w' => e = .returned (.tuple #[]) ∧ TrB w' g gap (k : Int) (fun j => if j = k then x else T j) ∧ U.Kg w w' g := by
  have HX := hide h
  have hk16 : k < 16 := hk
  have hkI : (k : Int) < 16 := by omega
  clear h
  go_enter Try.func137, Try.ntmps137
  refine wp_region_held_drew (S := fun _ => True) (by kernel_rfl) (trivial) (fun hHeld => ?_)
  refine wpAnyH_take (i := 0) (oi := { dst := some 6, op := Op.move (Operand.tmp 0), type := 199, pos := "trail.go:29", after := #[], guard := none }) (v := ?_) rfl (by kernel_rfl) (by kernel_rfl) (by kernel_rfl) (fun _ _ _ h => h) (Or.inl ⟨by rfl, ?_⟩) (by assumption) ?_
  rotate_left
  · (intro w hSw; (try dsimp only at hSw); go_simp); first | done | with_reducible rfl
  simp only [Act.put, List.setIfInBounds_toArray, List.set_cons_zero, List.set_cons_succ]
  refine wpAnyH_take (i := 1) (oi := { dst := some 7, op := Op.move (Operand.tmp 0), type := 199, pos := "trail.go:29", after := #[{ on := 7, ground := Ground.gcOnly Departure.lateStores }], guard := none }) (v := ?_) rfl (by kernel_rfl) (by kernel_rfl) (by kernel_rfl) (fun _ _ _ h => h) (Or.inl ⟨by rfl, ?_⟩) (by assumption) ?_
  rotate_left
  · (intro w hSw; (try dsimp only at hSw); go_simp); first | done | with_reducible rfl
  simp only [Act.put, List.setIfInBounds_toArray, List.set_cons_zero, List.set_cons_succ]
  refine wpAnyH_take (i := 2) (oi := { dst := some 8, op := Op.move (Operand.tmp 1), type := 3, pos := "trail.go:29", after := #[{ on := 7, ground := Ground.gcOnly Departure.lateStores }], guard := none }) (v := ?_) rfl (by kernel_rfl) (by kernel_rfl) (by kernel_rfl) (fun _ _ _ h => h) (Or.inl ⟨by rfl, ?_⟩) (by assumption) ?_
  rotate_left
  · (intro w hSw; (try dsimp only at hSw); go_simp); first | done | with_reducible rfl
  simp only [Act.put, List.setIfInBounds_toArray, List.set_cons_zero, List.set_cons_succ]
  refine wpAnyH_take (i := 3) (oi := { dst := some 9, op := Op.move (Operand.tmp 1), type := 3, pos := "trail.go:29", after := #[], guard := none }) (v := ?_) rfl (by kernel_rfl) (by kernel_rfl) (by kernel_rfl) (fun _ _ _ h => h) (Or.inl ⟨by rfl, ?_⟩) (by assumption) ?_
  rotate_left
  · (intro w hSw; (try dsimp only at hSw); go_simp); first | done | with_reducible rfl
  simp only [Act.put, List.setIfInBounds_toArray, List.set_cons_zero, List.set_cons_succ]
  refine wpAnyH_take (i := 4) (oi := { dst := some 10, op := Op.move (Operand.tmp 2), type := 3, pos := "trail.go:29", after := #[{ on := 7, ground := Ground.gcOnly Departure.lateStores }], guard := none }) (v := ?_) rfl (by kernel_rfl) (by kernel_rfl) (by kernel_rfl) (fun _ _ _ h => h) (Or.inl ⟨by rfl, ?_⟩) (by assumption) ?_
  rotate_left
  · (intro w hSw; (try dsimp only at hSw); go_simp); first | done | with_reducible rfl
  simp only [Act.put, List.setIfInBounds_toArray, List.set_cons_zero, List.set_cons_succ]
  refine wpAnyH_take (i := 5) (oi := { dst := some 11, op := Op.nilCheck (Operand.tmp 6), type := 0, pos := "trail.go:29", after := #[{ on := 0, ground := Ground.data }, { on := 0, ground := Ground.phase }, { on := 1, ground := Ground.textOnly Departure.lateStores }, { on := 2, ground := Ground.textOnly Departure.lateStores }, { on := 3, ground := Ground.phase }, { on := 4, ground := Ground.textOnly Departure.lateStores }], guard := none }) (v := ?_) rfl (by kernel_rfl) (by kernel_rfl) (by kernel_rfl) (fun _ _ _ h => h) (Or.inl ⟨by rfl, ?_⟩) (by assumption) ?_
  rotate_left
  · (intro w hSw; (try dsimp only at hSw); go_simp); first | done | with_reducible rfl
  simp only [Act.put, List.setIfInBounds_toArray, List.set_cons_zero, List.set_cons_succ]
  refine wpAnyH_take (i := 6) (oi := { dst := some 12, op := Op.fieldAddr 210 (Operand.tmp 11) 1, type := 0, pos := "trail.go:29", after := #[{ on := 5, ground := Ground.data }, { on := 0, ground := Ground.phase }, { on := 1, ground := Ground.textOnly Departure.lateStores }, { on := 2, ground := Ground.textOnly Departure.lateStores }, { on := 3, ground := Ground.phase }, { on := 4, ground := Ground.textOnly Departure.lateStores }], guard := none }) (v := ?_) rfl (by kernel_rfl) (by kernel_rfl) (by kernel_rfl) (fun _ _ _ h => h) (Or.inl ⟨by rfl, ?_⟩) (by assumption) ?_
  rotate_left
  · (intro w hSw; (try dsimp only at hSw); go_simp); first | done | with_reducible rfl
  simp only [Act.put, List.setIfInBounds_toArray, List.set_cons_zero, List.set_cons_succ]
  refine wpAnyH_take (i := 8) (oi := { dst := some 13, op := Op.nilCheck (Operand.tmp 7), type := 0, pos := "trail.go:29", after := #[{ on := 1, ground := Ground.data }], guard := none }) (v := ?_) rfl (by kernel_rfl) (by kernel_rfl) (by kernel_rfl) (fun _ _ _ h => h) (Or.inl ⟨by rfl, ?_⟩) (by assumption) ?_
  rotate_left
  · (intro w hSw; (try dsimp only at hSw); go_simp); first | done | with_reducible rfl
  simp only [Act.put, List.setIfInBounds_toArray, List.set_cons_zero, List.set_cons_succ]
  refine wpAnyH_take (i := 9) (oi := { dst := some 14, op := Op.fieldAddr 210 (Operand.tmp 13) 2, type := 0, pos := "trail.go:29", after := #[{ on := 8, ground := Ground.data }], guard := none }) (v := ?_) rfl (by kernel_rfl) (by kernel_rfl) (by kernel_rfl) (fun _ _ _ h => h) (Or.inl ⟨by rfl, ?_⟩) (by assumption) ?_
  rotate_left
  · (intro w hSw; (try dsimp only at hSw); go_simp); first | done | with_reducible rfl
  simp only [Act.put, List.setIfInBounds_toArray, List.set_cons_zero, List.set_cons_succ]
  have HX1 := hide (HX.out.below (U.below_drew1 w))
  have d1 := HX1.out.c1
  have z1 := HX1.out.frozen 1
  refine wpAnyH_ready (rs := [7]) (by kernel_rfl) (by simp) ?_
  refine AllReadyH.cons rfl (fun K hK => ?_) ?_
  rotate_left
  · exact AllReadyH.nil
  go_simp
  refine hK.out _ _ trivial (fun hHeld => ?_)
  clear hK K
  have HX2 := hide (HX1.out.set1 (k : Int))
  have d2 := HX.out.c2 k hk16
  have z2 := HX.out.frozen (2 + k)
  refine wpAnyH_take (i := 10) (oi := { dst := some 15, op := Op.indexAddr 158 (Operand.tmp 14) (Operand.tmp 8), type := 0, pos := "trail.go:29", after := #[{ on := 9, ground := Ground.data }, { on := 2, ground := Ground.data }, { on := 0, ground := Ground.phase }, { on := 1, ground := Ground.phase }, { on := 2, ground := Ground.phase }, { on := 3, ground := Ground.phase }, { on := 4, ground := Ground.phase }, { on := 5, ground := Ground.phase }, { on := 6, ground := Ground.phase }, { on := 7, ground := Ground.phase }], guard := none }) (v := ?_) rfl (by kernel_rfl) (by kernel_rfl) (by kernel_rfl) (fun _ _ _ h => h) (Or.inl ⟨by rfl, ?_⟩) (by assumption) ?_
  rotate_left
  · (intro w hSw; (try dsimp only at hSw); go_simp); first | done | with_reducible rfl
  simp only [Act.put, List.setIfInBounds_toArray, List.set_cons_zero, List.set_cons_succ]
  refine wpAnyH_ready (rs := [11]) (by kernel_rfl) (by simp) ?_
  refine AllReadyH.cons rfl (fun K hK => ?_) ?_
  rotate_left
  · exact AllReadyH.nil
  go_simp
  refine hK.out _ _ trivial (fun hHeld => ?_)
  clear hK K
  refine wpAnyH_done (by kernel_rfl) ?_ _
  clear hHeld
  have HF := hide (HX2.out.set2 k hk16 x)
  have HG := hide (((U.Kg.of_below (g := g) (U.below_drew1 w)).set 1 (.int .i64 (k : Int))).set (2 + k) (.int .i64 x))
  go_wp2_with fail
  go_end0
  exact ⟨rfl, HF.out, HG.out⟩
end Go.Proofs.Ytnghfnhpjdafmaa
