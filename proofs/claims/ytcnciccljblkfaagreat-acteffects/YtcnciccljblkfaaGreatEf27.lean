/- BMr BPr BPg Lit BKe PLp BFp -/
import Derived.Test.YtcnciccljblkfaaGreatEf26
import Derived.Below
import Derived.Maps.AppendAt
import Derived.Laws.OwnMore
import Derived.Test.YtcnciccljblkfaaGreatEf08
import Derived.Test.YtcnciccljblkfaaGreatEf19
import Derived.Shelf.SlIter.Nil
import Derived.Shelf.SortM.Plain
import Derived.Shelf.SortM.SortNone
import Derived.Test.YtcnciccljblkfaaGreatProg
import Derived.Test.YtcnciccljblkfaaGreatEf10
import Derived.Test.YtcnciccljblkfaaGreatEf16
import Derived.Test.YtcnciccljblkfaaGreatEf07
namespace Go.Proofs.YtcnciccljblkfaaGreat
open Go.RowKit Go.Maps Go.Sort
variable {P : Program} {kt et : TypeId} {size B : Nat} {w W W2 : World} {b k : Nat} {K : ByteArray → Prop} {f : ByteArray → Hs} {X : ByteArray → List Value}
structure MRo (P : Program) (kt et : TypeId) (size B : Nat) (w W : World) (b k : Nat) (K : ByteArray → Prop) (f : ByteArray → Hs) (X : ByteArray → List Value) : Prop where
 map : ∃ D, W.ownsMap P kt RSl b k D ∧ MpS D K f
 rows : ∀ s, W.ownsRow B et size (HsV (f s)) (f s).n (X s)
 apart : ∀ s t, s ≠ t → ∀ g, (HsV (f s)).ownBlock = some g → (HsV (f t)).ownBlock ≠ some g
 below : Below w.heap.size w W
 hb : w.heap.size ≤ b ∧ b < B ∧ B ≤ W.heap.size
theorem MRo.start (w : World) : MRo P kt et size (w.heap.size + 1) w (w.alloc (.map #[] 0)) w.heap.size 0 (fun _ => False) (fun _ => hs0) (fun _ => []) :=
 ⟨⟨_, World.ownsMap_made _ _ _ _, mpS_start⟩, fun _ => World.ownsRow_nil _ _ _ _, fun _ _ _ g h => (by cases h), (Below.refl _ _).alloc (Nat.le_refl _) _, Nat.le_refl _, Nat.lt_succ_self _, by simp⟩
theorem grown_of_below (h : Below W.heap.size W W2) : W.grownBy W2 none := ⟨h.os, h.tape, h.output, h.size, fun k hk _ => h.block k hk⟩
theorem MRo.later (M : MRo P kt et size B w W b k K f X) (h : Below W.heap.size W W2) : MRo P kt et size B w W2 b k K f X := by
 obtain ⟨D, hD, hM⟩ := M.map
 have hlt : b < W.heap.size := by have := M.hb; omega
 refine ⟨⟨D, ?_, hM⟩, fun s => (M.rows s).kept (grown_of_below h) ?_, M.apart, M.below.trans (h.mono M.below.size), M.hb.1, M.hb.2.1, Nat.le_trans M.hb.2.2 h.size⟩
 ·obtain ⟨es, c, h1, h2⟩ := hD
  exact ⟨es, c, (h.block b hlt).trans h1, h2⟩
 ·cases (HsV (f s)).ownBlock with
  | none => exact .inl rfl
  | some g => exact .inr (by simp)
theorem MRo.look (M : MRo P kt et size B w W b k K f X) (hK : Keyed P kt) (hk : P.underlying kt = some .string) {t st : TypeId} (ht : P.underlying t = some (.map kt st)) (hz : (zeroValue st).run P W = .ok (HsV hs0) W) (s : ByteArray) (hs : s.size ≤ maxLen) :
  (Instr.lookup t (.map (some b)) (.string s) false).run P W = .ok (HsV (f s)) W := by
 obtain ⟨D, hD, hM⟩ := M.map
 obtain ⟨v, ps, hr, hv⟩ := hD.lookup hK ht hz (RSl_of hs0) (Go.WideMaps.keyOf_string_mk hk hs)
 rw [hM.2 s] at hv
 rw [hr, RSl_inv hv]
structure MRm (P : Program) (kt et : TypeId) (size B : Nat) (w W : World) (b k : Nat) (K : ByteArray → Prop) (f : ByteArray → Hs) (X : ByteArray → List Value) (s : ByteArray) (x : Hs) (Y : List Value) : Prop where
 map : ∃ D, W.ownsMap P kt RSl b k D ∧ MpS D K f
 row : W.ownsRow B et size (HsV x) x.n Y
 rows : ∀ t, t ≠ s → W.ownsRow B et size (HsV (f t)) (f t).n (X t)
 apart : ∀ t u, t ≠ u → ∀ g, (HsV (f t)).ownBlock = some g → (HsV (f u)).ownBlock ≠ some g
 apartS : ∀ t, t ≠ s → ∀ g, (HsV (f t)).ownBlock = some g → (HsV x).ownBlock ≠ some g
 below : Below w.heap.size w W
 hb : w.heap.size ≤ b ∧ b < B ∧ B ≤ W.heap.size
theorem MRo.app (M : MRo P kt et size B w W b k K f X) (s : ByteArray) {st ty : TypeId} {i : TypeInfo} {z : Value} {bytes : Nat} (hst : P.underlying st = some (.slice et)) (hi : P.info? et = some i) (hz : i.zero = some z) (hsize : i.size = size) (hby : i.bytes = bytes) (hzs : z.cells.size = size) (hsz : 0 < size)
  (a : Addr) (c : Nat) (news : List Value) (hl : news.length = size) (hnews : ∀ j u, news[j]? = some u → W.cell? (a.add j) = some u) (h1 : ∀ u ∈ news, u.oneCell' = true) (h63 : (f s).n + 1 ≤ maxLen) (hbytes : ((f s).n + 1) * bytes ≤ 140737488355328) :
  ∃ g c2 W2, (Builtin.append_ #[st, st] ty #[HsV (f s), .slice (some a) 1 c]).run P W = .ok (.slice (some ⟨g, 0, none⟩) ((f s).n + 1) c2) W2 ∧ MRm P kt et size B w W2 b k K f X s ⟨some ⟨g, 0, none⟩, (f s).n + 1, c2⟩ (X s ++ news) ∧ ∀ q, q < W.heap.size → (HsV (f s)).ownBlock ≠ some q → W2.heap[q]? = W.heap[q]? := by
 obtain ⟨v', W2, hrun, hown, hgrow, _, hat⟩ := run_append_own_at (P := P) W B st ty et i z size bytes hst hi hz hsize hby hzs hsz (HsV (f s)) (f s).n (X s) (M.rows s) a 1 c news (by omega) hnews h1 h63 hbytes M.hb.2.2
 rcases hown.2 with ⟨h0, h00⟩ | ⟨g, cap2, cur, hv, hbg, hgg, hnc, hcm, hcsz, htake⟩
 ·omega
 ·subst hv
  obtain ⟨D, hD, hM⟩ := M.map
  have hlt : b < W.heap.size := by have := M.hb; omega
  have hrow : ∀ k, (HsV (f s)).ownBlock = some k → B ≤ k := fun k hk => ((M.rows s).lt k hk).1
  refine ⟨g, cap2, W2, hrun, ⟨⟨D, ?_, hM⟩, hown, fun t ht => (M.rows t).kept hgrow ?_, M.apart, fun t ht q hq e => ?_, M.below.grown hgrow M.below.size (fun k hk => by have := hrow k hk; have := M.hb; omega), M.hb.1, M.hb.2.1, Nat.le_trans M.hb.2.2 hgrow.size⟩, fun q hq hn => hgrow.block q hq (fun e => hn e.symm)⟩
  ·obtain ⟨es, c, h1, h2⟩ := hD
   exact ⟨es, c, (hgrow.block b hlt (fun e => by have := hrow b e.symm; have := M.hb; omega)).trans h1, h2⟩
  ·cases ho : (HsV (f t)).ownBlock with
   | none => exact .inl rfl
   | some q => exact .inr (fun e => M.apart t s ht q ho e.symm)
  ·have hq2 := ((M.rows t).lt q hq).2
   rcases hat with h | h
   ·rw [h] at e
    exact M.apart t s ht q hq e
   ·rw [h] at e
    have := Option.some.inj e
    omega
theorem MRm.put {s : ByteArray} {x : Hs} {Y : List Value} (M : MRm P kt et size B w W b k K f X s x Y) (hK : Keyed P kt) (hk : P.underlying kt = some .string) {t st : TypeId} (ht : P.underlying t = some (.map kt st)) (hs : s.size ≤ maxLen) (hn : k < maxLen) :
  ∃ W2, (Instr.mapUpdate t (.map (some b)) (.string s) (HsV x)).run P W = .ok () W2 ∧ MRo P kt et size B w W2 b (k + 1) (fun u => u = s ∨ K u) (fun u => if u = s then x else f u) (fun u => if u = s then Y else X u) ∧ ∀ q, q < W.heap.size → q ≠ b → W2.heap[q]? = W.heap[q]? := by
 obtain ⟨D, hD, hM⟩ := M.map
 have hmap := hD.isMap
 obtain ⟨W2, hr, ho, hg⟩ := hD.update hK ht hn (Go.WideMaps.keyOf_string_mk hk hs) (RSl_of x)
 have hne : ∀ (v : Value) (n : Nat) (xs : List Value), W.ownsRow B et size v n xs → v.ownBlock = none ∨ v.ownBlock ≠ some b := fun v n xs h => by
  cases hv : v.ownBlock with
  | none => exact .inl rfl
  | some q => exact .inr (fun e => by have := (h.lt q hv).1; have := M.hb; have := Option.some.inj e; omega)
 refine ⟨W2, hr, ⟨⟨_, ho, mpS_step hM hmap s x _ (if_pos rfl) (fun u hu => if_neg hu)⟩, fun u => ?_, fun u v huv g hg1 => ?_, M.below.grown hg M.below.size (fun j hj => by cases hj; exact M.hb.1), M.hb.1, M.hb.2.1, Nat.le_trans M.hb.2.2 hg.size⟩, fun q hq hn => hg.block q hq (fun e => hn (Option.some.inj e))⟩
 ·by_cases hu : u = s
  ·simp only [if_pos hu]
   exact M.row.kept hg (hne _ _ _ M.row)
  ·simp only [if_neg hu]
   exact (M.rows u hu).kept hg (hne _ _ _ (M.rows u hu))
 ·by_cases hu : u = s
  ·have hv : ¬ v = s := fun e => huv (hu.trans e.symm)
   simp only [if_pos hu, if_neg hv] at hg1 ⊢
   exact fun e => M.apartS v hv g e hg1
  ·by_cases hv : v = s
   ·simp only [if_neg hu, if_pos hv] at hg1 ⊢
    exact M.apartS u hu g hg1
   ·simp only [if_neg hu, if_neg hv] at hg1 ⊢
    exact M.apart u v huv g hg1
theorem step_appM {W W2 : World} {ops : Array Oper} {o : Oper} {a : Act} {K : Act → World → Prop} {Q : Exit → Act → World → Prop} {E : Prop} {v1 v2 v' : Value} {st : TypeId} (hgd : o.guard = none) (s x : Operand) (ho : o.op = .call { callee := .builtin .append, args := #[s, x], argTypes := #[st, st] })
  (hs : a.eval s = v1) (hx : a.eval x = v2) (hrun : (Builtin.append_ #[st, st] o.type #[v1, v2]).run P W = .ok v' W2) (hK : K (a.put o.dst v') W2) :
  if Region.wanted o (yielded ops a.tmps) = true then Oper.wp P o a W K Q else E := by
 have hw : Region.wanted o (yielded ops a.tmps) = true := by simp [Region.wanted, hgd]
 rw [if_pos hw]
 unfold Oper.wp
 simp [execOp, ho, resolve, invoke, builtin, hs, hx, hrun, Result.andThen]
 exact hK
theorem seq_appM {W W2 : World} {ops : Array Oper} {rest : List Oper} {o : Oper} {a : Act} {Q : Exit → Act → World → Prop} {v1 v2 v' : Value} {st : TypeId} (hgd : o.guard = none) (s x : Operand) (ho : o.op = .call { callee := .builtin .append, args := #[s, x], argTypes := #[st, st] })
  (hs : a.eval s = v1) (hx : a.eval x = v2) (hrun : (Builtin.append_ #[st, st] o.type #[v1, v2]).run P W = .ok v' W2) (hK : wpList P ops Q rest (a.put o.dst v') W2) : wpList P ops Q (o :: rest) a W :=
 wpList_plain hgd fun K hKK => by
  unfold Oper.wp
  simp [execOp, ho, resolve, invoke, builtin, hs, hx, hrun, Result.andThen]
  exact hKK _ _ hK
end Go.Proofs.YtcnciccljblkfaaGreat
namespace Go.Proofs.YtcnciccljblkfaaGreat
open Go.RowKit Go.Maps Go.Sort
def pvs (L : List Pv) : List Value := (L.map (fun p => (PC p).toList)).flatten
theorem pvs_append (L R : List Pv) : pvs (L ++ R) = pvs L ++ pvs R := by simp [pvs]
theorem pvs_one (p : Pv) : pvs [p] = (PC p).toList := by simp [pvs]
theorem pvs_length (L : List Pv) : (pvs L).length = L.length * 2 := by
 induction L with
 | nil => rfl
 | cons a L ih => have : pvs (a :: L) = (PC a).toList ++ pvs L := rfl; rw [this, List.length_append, ih]; simp [PC]; omega
theorem pvs_at (L : List Pv) (t j : Nat) (ht : t < L.length) (hj : j < 2) : (pvs L)[t * 2 + j]? = (PC L[t]).toList[j]? := by
 induction L generalizing t with
 | nil => simp at ht
 | cons a L ih =>
  have e : pvs (a :: L) = (PC a).toList ++ pvs L := rfl
  cases t with
  | zero => rw [e, List.getElem?_append_left (by simp [PC]; omega)]; simp
  | succ t =>
   rw [e, List.getElem?_append_right (by simp [PC]; omega)]
   have h := ih t (by simpa using ht)
   have e4 : (t + 1) * 2 + j - (PC a).toList.length = t * 2 + j := by simp [PC]; omega
   rw [e4, h]; simp
theorem pvs_cell (p : Pv) : ∀ v ∈ (PC p).toList, v.oneCell' = true := by
 intro v hv; simp [PC] at hv; rcases hv with rfl | rfl <;> rfl
theorem infoPast : (Tryz.prog.info? 26).map (fun i => (i.zero, i.size, i.bytes)) = some (some (.agg #[.slice none 0 0, .slice none 0 0]), 2, 48) := by kernel_rfl
theorem prow_of {W : World} {B : Nat} {h : Hs} {L : List Pv} (hr : W.ownsRow B 26 2 (HsV h) h.n (pvs L)) (hs : ∀ p ∈ L, PSrc W p) : PRow W h.o h.n L := by
 have hl : L.length = h.n := by have := hr.1; rw [pvs_length] at this; omega
 obtain ⟨o, n, c⟩ := h
 rcases hr.2 with ⟨h0, h00⟩ | ⟨g, cap, cur, hv, hbg, hgg, hnc, hcm, hcsz, htake⟩
 ·refine ⟨hl, fun _ => h00, fun ad e t p hp => ?_, hs⟩
  have := (List.getElem?_eq_some_iff.1 hp).1
  omega
 ·simp only [Value.slice.injEq] at hv
  obtain ⟨rfl, -, rfl⟩ := hv
  refine ⟨hl, fun e => (by cases e), fun ad e t p hp => ?_, hs⟩
  obtain rfl : (⟨g, 0, none⟩ : Addr) = ad := Option.some.inj e
  obtain ⟨ht, hpt⟩ := List.getElem?_eq_some_iff.1 hp
  have hc : ∀ j, j < 2 → W.cell? ⟨g, t * 2 + j, none⟩ = (PC p).toList[j]? := fun j hj => by
   have h1 := World.ownsRow.cellAt hr (t * 2 + j) (by dsimp only at hl ⊢; omega)
   rw [h1, pvs_at L t j ht hj, hpt]
  refine ⟨?_, ?_⟩
  ·rw [Addr.add_lit, Nat.zero_add]
   exact hc 0 (by omega)
  ·rw [Addr.add_lit, Addr.add_lit, Nat.zero_add]
   exact hc 1 (by omega)
theorem mp_app {w W : World} {b B k : Nat} {K : ByteArray → Prop} {f : ByteArray → Hs} {X : ByteArray → List Value} (M : MRo Tryz.prog 9 26 2 B w W b k K f X) (s : ByteArray) (p : Pv) (hn : (f s).n ≤ 2900000000000) :
  ∃ g c2 W2, (Builtin.append_ #[65, 65] 65 #[HsV (f s), .slice (some ⟨W.heap.size, 0, none⟩) 1 1]).run Tryz.prog (W.alloc (.cells (PC p) 26)) = .ok (.slice (some ⟨g, 0, none⟩) ((f s).n + 1) c2) W2 ∧ MRm Tryz.prog 9 26 2 B w W2 b k K f X s ⟨some ⟨g, 0, none⟩, (f s).n + 1, c2⟩ (X s ++ (PC p).toList) ∧ ∀ q, q < W.heap.size → (HsV (f s)).ownBlock ≠ some q → W2.heap[q]? = W.heap[q]? := by
 obtain ⟨i0, hi, hz0, hz1, hz2⟩ := info_parts infoPast
 obtain ⟨g, c2, W2, h1, h2, h3⟩ := (M.later (below_new W (.cells (PC p) 26))).app s (ty := 65) Tryz.underlying65 hi hz0 hz1 hz2 (by simp [Value.cells]) (by decide) ⟨W.heap.size, 0, none⟩ 1 (PC p).toList rfl (fun j u hj => by
  rw [Addr.add_lit, Nat.zero_add, World.cell?_alloc_new]
  simpa using hj) (pvs_cell p) (by unfold maxLen; omega) (by omega)
 exact ⟨g, c2, W2, h1, h2, fun q hq hn => (h3 q (by simp; omega) hn).trans (Below.heap_alloc W _ q hq)⟩
structure OwnP (B : Nat) (w W : World) (h : Hs) (L : List Pv) : Prop where
 own : W.ownsRow B 26 2 (HsV h) h.n (pvs L)
 src : ∀ p ∈ L, PSrc W p
 below : Below w.heap.size w W
 hB : w.heap.size ≤ B ∧ B ≤ W.heap.size
theorem OwnP.nil (w : World) : OwnP w.heap.size w w hs0 [] := ⟨World.ownsRow_nil _ _ _ _, fun p h => (by cases h), Below.refl _ _, Nat.le_refl _, Nat.le_refl _⟩
theorem OwnP.later {B : Nat} {w W W2 : World} {h : Hs} {L : List Pv} (O : OwnP B w W h L) (hb : Below W.heap.size W W2) : OwnP B w W2 h L := by
 refine ⟨O.own.kept (grown_of_below hb) ?_, fun p hp => (O.src p hp).below hb, O.below.trans (hb.mono O.below.size), O.hB.1, Nat.le_trans O.hB.2 hb.size⟩
 cases (HsV h).ownBlock with
 | none => exact .inl rfl
 | some g => exact .inr (by simp)
theorem OwnP.row {B : Nat} {w W : World} {h : Hs} {L : List Pv} (O : OwnP B w W h L) : PRow W h.o h.n L := prow_of O.own O.src
end Go.Proofs.YtcnciccljblkfaaGreat
namespace Go.Proofs.YtcnciccljblkfaaGreat
open Go.RowKit Go.Maps Go.Sort
theorem psrc_keep {W W' : World} {p : Pv} {g : Option Nat} (h : PSrc W p) (hf : ∀ k, g = some k → PFar p k) (hk : ∀ q, q < W.heap.size → some q ≠ g → W'.heap[q]? = W.heap[q]?) : PSrc W' p := by
 have ev : ∀ ad, p.vo = some ad → ∀ t, t < p.vn → W'.cell? (ad.add t) = W.cell? (ad.add t) := fun ad e t ht => by
  have hc := h.vec.2.2 ad e t ht
  have hl := World.block_lt_of_cell? _ _ hc
  rw [block_add] at hl
  unfold World.cell?
  rw [block_add, hk _ hl (fun eg => (hf _ eg.symm).1 (by omega) ad e rfl)]
 have ec : ∀ ad, p.co = some ad → ∀ t, t < p.cn → ∀ j, W'.cell? (ad.add j) = W.cell? (ad.add j) := fun ad e t ht j => by
  have hl := World.block_lt_of_cell? _ _ (h.cloud.cell ad e t ht).c0
  rw [block_add] at hl
  unfold World.cell?
  rw [block_add, hk _ hl (fun eg => (hf _ eg.symm).2 (by omega) ad e rfl)]
 refine ⟨⟨h.vec.1, h.vec.2.1, fun ad e t ht => by rw [ev ad e t ht]; exact h.vec.2.2 ad e t ht⟩, ⟨h.cloud.len, h.cloud.nil, fun ad e t ht => ?_, h.cloud.big, h.cloud.cap⟩, h.big⟩
 have A := h.cloud.cell ad e t ht
 have e' := ec ad e t ht
 exact ⟨by rw [e']; exact A.c0, by have := A.c1; rw [add_add] at this ⊢; rw [e']; exact this, by have := A.c2; rw [add_add] at this ⊢; rw [e']; exact this⟩
def FarH (h : Hs) (p : Pv) : Prop := ∀ k, (HsV h).ownBlock = some k → PFar p k
theorem OwnP.app {B : Nat} {w W : World} {h : Hs} {L : List Pv} (O : OwnP B w W h L) (hF : ∀ p ∈ L, FarH h p) (p : Pv) (hp : PSrc W p) (hf : FarH h p) (hn : h.n ≤ 2900000000000) :
  ∃ g c2 W2, (Builtin.append_ #[65, 65] 65 #[HsV h, .slice (some ⟨W.heap.size, 0, none⟩) 1 1]).run Tryz.prog (W.alloc (.cells (PC p) 26)) = .ok (.slice (some ⟨g, 0, none⟩) (h.n + 1) c2) W2 ∧ OwnP B w W2 ⟨some ⟨g, 0, none⟩, h.n + 1, c2⟩ (L ++ [p]) ∧ (∀ q ∈ L ++ [p], FarH ⟨some ⟨g, 0, none⟩, h.n + 1, c2⟩ q) ∧ (∀ q, q < W.heap.size → (HsV h).ownBlock ≠ some q → W2.heap[q]? = W.heap[q]?) := by
 obtain ⟨i0, hi, hz0, hz1, hz2⟩ := info_parts infoPast
 have b1 := below_new W (.cells (PC p) 26)
 have O1 := O.later b1
 obtain ⟨v', W2, hrun, hown, hgrow, _, hat⟩ := run_append_own_at (P := Tryz.prog) (W.alloc (.cells (PC p) 26)) B 65 65 26 i0 (.agg #[.slice none 0 0, .slice none 0 0]) 2 48 Tryz.underlying65 hi hz0 hz1 hz2 (by simp [Value.cells]) (by decide) (HsV h) h.n (pvs L) O1.own ⟨W.heap.size, 0, none⟩ 1 1 (PC p).toList rfl (fun j u hj => by
  rw [Addr.add_lit, Nat.zero_add, World.cell?_alloc_new]
  simpa using hj) (pvs_cell p) (by unfold maxLen; omega) (by omega) O1.hB.2
 rcases hown.2 with ⟨h0, h00⟩ | ⟨g, cap2, cur, hv, hbg, hgg, hnc, hcm, hcsz, htake⟩
 ·omega
 ·subst hv
  have hall : ∀ q ∈ L ++ [p], PSrc (W.alloc (.cells (PC p) 26)) q ∧ FarH h q := fun q hq => by
   rcases List.mem_append.1 hq with hq | hq
   ·exact ⟨O1.src q hq, hF q hq⟩
   ·obtain rfl : q = p := by simpa using hq
    exact ⟨hp.below b1, hf⟩
  have hrow : ∀ k, (HsV h).ownBlock = some k → B ≤ k := fun k hk => (O1.own.lt k hk).1
  refine ⟨g, cap2, W2, hrun, ⟨by rw [pvs_append, pvs_one]; exact hown, fun q hq => psrc_keep (hall q hq).1 (fun k hk => (hall q hq).2 k hk) (fun k hk hn => hgrow.block k hk hn), O1.below.grown hgrow O1.below.size (fun k hk => by have := hrow k hk; have := O.hB; omega), O.hB.1, Nat.le_trans O1.hB.2 hgrow.size⟩, fun q hq k hk => ?_, fun q hq hn => (hgrow.block q (by simp; omega) (fun e => hn e.symm)).trans (Below.heap_alloc W _ q hq)⟩
  rcases hat with e | e
  ·exact (hall q hq).2 k (by rw [← e]; exact hk)
  ·rw [e] at hk
   have := Option.some.inj hk
   exact PFar.old (hall q hq).1 (by omega)
/-! ### records -/
def rvs (L : List Rc) : List Value := (L.map (fun r => (ReC (mkR r)).toList)).flatten
theorem rvs_append (L R : List Rc) : rvs (L ++ R) = rvs L ++ rvs R := by simp [rvs]
theorem rvs_one (r : Rc) : rvs [r] = (ReC (mkR r)).toList := by simp [rvs]
theorem rvs_length (L : List Rc) : (rvs L).length = L.length * 3 := by
 induction L with
 | nil => rfl
 | cons a L ih => have : rvs (a :: L) = (ReC (mkR a)).toList ++ rvs L := rfl; rw [this, List.length_append, ih]; simp [ReC]; omega
theorem rvs_at (L : List Rc) (t j : Nat) (ht : t < L.length) (hj : j < 3) : (rvs L)[t * 3 + j]? = (ReC (mkR (L.getD t rc0))).toList[j]? := by
 induction L generalizing t with
 | nil => simp at ht
 | cons a L ih =>
  have e : rvs (a :: L) = (ReC (mkR a)).toList ++ rvs L := rfl
  cases t with
  | zero => rw [e, List.getElem?_append_left (by simp [ReC]; omega)]; simp [List.getD]
  | succ t =>
   rw [e, List.getElem?_append_right (by simp [ReC]; omega)]
   have h := ih t (by simpa using ht)
   have e4 : (t + 1) * 3 + j - (ReC (mkR a)).toList.length = t * 3 + j := by simp [ReC]; omega
   rw [e4, h]; simp [List.getD]
theorem rvs_cell (r : Rc) : ∀ v ∈ (ReC (mkR r)).toList, v.oneCell' = true := by
 intro v hv; simp [ReC] at hv; rcases hv with rfl | rfl | rfl <;> rfl
theorem infoRec : (Tryz.prog.info? 52).map (fun i => (i.zero, i.size, i.bytes)) = some (some (.agg #[.string ⟨#[]⟩, .slice none 0 0, .slice none 0 0]), 3, 64) := by kernel_rfl
structure OwnRc (B : Nat) (w W : World) (h : Hs) (L : List Rc) : Prop where
 own : W.ownsRow B 52 3 (HsV h) h.n (rvs L)
 ok : ∀ r ∈ L, RcOk W r ∧ FarH h r.p
 below : Below w.heap.size w W
 hB : w.heap.size ≤ B ∧ B ≤ W.heap.size
theorem OwnRc.nil (w : World) : OwnRc w.heap.size w w hs0 [] := ⟨World.ownsRow_nil _ _ _ _, fun p h => (by cases h), Below.refl _ _, Nat.le_refl _, Nat.le_refl _⟩
theorem OwnRc.later {B : Nat} {w W W2 : World} {h : Hs} {L : List Rc} (O : OwnRc B w W h L) (hb : Below W.heap.size W W2) : OwnRc B w W2 h L := by
 refine ⟨O.own.kept (grown_of_below hb) ?_, fun p hp => ⟨(O.ok p hp).1.below hb, (O.ok p hp).2⟩, O.below.trans (hb.mono O.below.size), O.hB.1, Nat.le_trans O.hB.2 hb.size⟩
 cases (HsV h).ownBlock with
 | none => exact .inl rfl
 | some g => exact .inr (by simp)
theorem OwnRc.app {B : Nat} {w W : World} {h : Hs} {L : List Rc} (O : OwnRc B w W h L) (r : Rc) (hp : RcOk W r) (hf : FarH h r.p) (hn : h.n ≤ 2199023255551) :
  ∃ g c2 W2, (Builtin.append_ #[27, 27] 27 #[HsV h, .slice (some ⟨W.heap.size, 0, none⟩) 1 1]).run Tryz.prog (W.alloc (.cells (ReC (mkR r)) 52)) = .ok (.slice (some ⟨g, 0, none⟩) (h.n + 1) c2) W2 ∧ OwnRc B w W2 ⟨some ⟨g, 0, none⟩, h.n + 1, c2⟩ (L ++ [r]) ∧ (∀ q, q < W.heap.size → (HsV h).ownBlock ≠ some q → W2.heap[q]? = W.heap[q]?) := by
 obtain ⟨i0, hi, hz0, hz1, hz2⟩ := info_parts infoRec
 have b1 := below_new W (.cells (ReC (mkR r)) 52)
 have O1 := O.later b1
 obtain ⟨v', W2, hrun, hown, hgrow, _, hat⟩ := run_append_own_at (P := Tryz.prog) (W.alloc (.cells (ReC (mkR r)) 52)) B 27 27 52 i0 (.agg #[.string ⟨#[]⟩, .slice none 0 0, .slice none 0 0]) 3 64 Tryz.underlying27 hi hz0 hz1 hz2 (by simp [Value.cells]) (by decide) (HsV h) h.n (rvs L) O1.own ⟨W.heap.size, 0, none⟩ 1 1 (ReC (mkR r)).toList rfl (fun j u hj => by
  rw [Addr.add_lit, Nat.zero_add, World.cell?_alloc_new]
  simpa using hj) (rvs_cell r) (by unfold maxLen; omega) (by omega) O1.hB.2
 rcases hown.2 with ⟨h0, h00⟩ | ⟨g, cap2, cur, hv, hbg, hgg, hnc, hcm, hcsz, htake⟩
 ·omega
 ·subst hv
  have hall : ∀ q ∈ L ++ [r], RcOk (W.alloc (.cells (ReC (mkR r)) 52)) q ∧ FarH h q.p := fun q hq => by
   rcases List.mem_append.1 hq with hq | hq
   ·exact O1.ok q hq
   ·obtain rfl : q = r := by simpa using hq
    exact ⟨hp.below b1, hf⟩
  have hrow : ∀ k, (HsV h).ownBlock = some k → B ≤ k := fun k hk => (O1.own.lt k hk).1
  refine ⟨g, cap2, W2, hrun, ⟨by rw [rvs_append, rvs_one]; exact hown, fun q hq => ⟨⟨psrc_keep (hall q hq).1.1 (fun k hk => (hall q hq).2 k hk) (fun k hk hn => hgrow.block k hk hn), (hall q hq).1.2⟩, fun k hk => ?_⟩, O1.below.grown hgrow O1.below.size (fun k hk => by have := hrow k hk; have := O.hB; omega), O.hB.1, Nat.le_trans O1.hB.2 hgrow.size⟩, fun q hq hn => (hgrow.block q (by simp; omega) (fun e => hn e.symm)).trans (Below.heap_alloc W _ q hq)⟩
  rcases hat with e | e
  ·exact (hall q hq).2 k (by rw [← e]; exact hk)
  ·rw [e] at hk
   have := Option.some.inj hk
   exact PFar.old (hall q hq).1.1 (by omega)
theorem OwnRc.src {B : Nat} {w W : World} {h : Hs} {L : List Rc} (O : OwnRc B w W h L) (hn : h.n ≤ 2199023255552) : RcS W h.o h.n h.c L := by
 have hl : L.length = h.n := by have := O.own.1; rw [rvs_length] at this; omega
 have hok : ∀ r ∈ L, RcOk W r := fun r hr => (O.ok r hr).1
 have hr := O.own
 obtain ⟨o, n, c⟩ := h
 rcases hr.2 with ⟨h0, h00⟩ | ⟨g, cap, cur, hv, hbg, hgg, hnc, hcm, hcsz, htake⟩
 ·refine ⟨hl, fun _ => h00, fun ad e t ht => ?_, hok, hn⟩
  omega
 ·simp only [Value.slice.injEq] at hv
  obtain ⟨rfl, -, rfl⟩ := hv
  refine ⟨hl, fun e => (by cases e), fun ad e t ht => ?_, hok, hn⟩
  obtain rfl : (⟨g, 0, none⟩ : Addr) = ad := Option.some.inj e
  have hc : ∀ j, j < 3 → W.cell? ⟨g, t * 3 + j, none⟩ = (ReC (mkR (L.getD t rc0))).toList[j]? := fun j hj => by
   have h1 := World.ownsRow.cellAt hr (t * 3 + j) (by dsimp only at ht ⊢; omega)
   rw [h1, rvs_at L t j (by omega) hj]
  refine ⟨?_, ?_, ?_⟩
  ·rw [Addr.add_lit, Nat.zero_add]
   exact hc 0 (by omega)
  ·rw [Addr.add_lit, Addr.add_lit, Nat.zero_add]
   exact hc 1 (by omega)
  ·rw [Addr.add_lit, Addr.add_lit, Nat.zero_add]
   exact hc 2 (by omega)
end Go.Proofs.YtcnciccljblkfaaGreat
namespace Go.Proofs
open Go.Shelf
def Tryz.keysM_ren : Go.Shelf.Ren := ⟨fun | 7 => 57 | 10 => 93 | n => n, fun | 23 => 87 | 26 => 9 | 3 => 65 | 28 => 91 | 0 => 0 | 27 => 90 | 33 => 78 | 4 => 4 | n => n, fun | n => n⟩
theorem Tryz.keysM : Go.Proofs.SlLaysZ.n7 Tryz.prog Tryz.keysM_ren := {
 mixed := by kernel_rfl
 f7 := ⟨Tryz.f57.name, by decide, Tryz.func57.trans (congrArg some (by kernel_rfl))⟩
 f10 := ⟨Tryz.f93.name, by decide, Tryz.func93.trans (congrArg some (by kernel_rfl))⟩
 t0 := Tryz.underlying0
 a0 := Tryz.isAgg0
 z0 := Tryz.sizeOf0
 v0 := Tryz.zeroValue0
 t4 := Tryz.underlying4
 a4 := Tryz.isAgg4
 z4 := Tryz.sizeOf4
 v4 := Tryz.zeroValue4
 t23 := Tryz.underlying87
 a23 := Tryz.isAgg87
 z23 := Tryz.sizeOf87
 v23 := Tryz.zeroValue87
 t26 := Tryz.underlying9
 a26 := Tryz.isAgg9
 z26 := Tryz.sizeOf9
 v26 := Tryz.zeroValue9
 t27 := Tryz.underlying90
 a27 := Tryz.isAgg90
 z27 := Tryz.sizeOf90
 v27 := Tryz.zeroValue90
 t28 := Tryz.underlying91
 a28 := Tryz.isAgg91
 z28 := Tryz.sizeOf91
 v28 := Tryz.zeroValue91
 t33 := Tryz.underlying78
 a33 := Tryz.isAgg78
 z33 := Tryz.sizeOf78
 v33 := Tryz.zeroValue78 }
def Tryz.sortedM_ren : Go.Shelf.Ren := ⟨fun | 6 => 56 | 8 => 91 | 9 => 92 | 11 => 114 | 13 => 97 | 12 => 115 | 23 => 129 | 24 => 130 | 14 => 150 | 15 => 151 | 16 => 152 | 17 => 153 | 18 => 154 | 19 => 155 | 20 => 156 | 21 => 157 | 22 => 158 | 25 => 172 | 26 => 161 | 27 => 162 | 28 => 173 | 29 => 174 | 30 => 175 | 31 => 186 | n => n, fun | 26 => 9 | 28 => 91 | 24 => 88 | 0 => 0 | 3 => 3 | 37 => 131 | 48 => 160 | 50 => 162 | 4 => 4 | 40 => 154 | 39 => 153 | 45 => 124 | 5 => 5 | 9 => 9 | 51 => 181 | 55 => 185 | 57 => 196 | 58 => 137 | 33 => 78 | n => n, fun | n => n⟩
theorem Tryz.sortedM : Go.Proofs.SlLaysZ.n6 Tryz.prog Tryz.sortedM_ren := {
 mixed := by kernel_rfl
 f6 := ⟨Tryz.f56.name, by decide, Tryz.func56.trans (congrArg some (by kernel_rfl))⟩
 f8 := ⟨Tryz.f91.name, by decide, Tryz.func91.trans (congrArg some (by kernel_rfl))⟩
 f11 := ⟨Tryz.f114.name, by decide, Tryz.func114.trans (congrArg some (by kernel_rfl))⟩
 t0 := Tryz.underlying0
 a0 := Tryz.isAgg0
 z0 := Tryz.sizeOf0
 v0 := Tryz.zeroValue0
 t24 := Tryz.underlying88
 a24 := Tryz.isAgg88
 z24 := Tryz.sizeOf88
 v24 := Tryz.zeroValue88
 t26 := Tryz.underlying9
 a26 := Tryz.isAgg9
 z26 := Tryz.sizeOf9
 v26 := Tryz.zeroValue9
 t28 := Tryz.underlying91
 a28 := Tryz.isAgg91
 z28 := Tryz.sizeOf91
 v28 := Tryz.zeroValue91
 i26 := by kernel_rfl }
def Tryz.sortM_ren : Go.Shelf.Ren := ⟨fun | 6 => 92 | 8 => 97 | 9 => 115 | 19 => 129 | 20 => 130 | 21 => 150 | 22 => 151 | 23 => 152 | 24 => 153 | 25 => 154 | 26 => 155 | 27 => 156 | 28 => 157 | 29 => 158 | 36 => 172 | 31 => 161 | 32 => 162 | 37 => 173 | 38 => 174 | 39 => 175 | 41 => 186 | n => n, fun | 27 => 88 | 29 => 9 | 3 => 3 | 32 => 131 | 26 => 88 | 0 => 0 | 44 => 160 | 46 => 162 | 4 => 4 | 36 => 154 | 35 => 153 | 41 => 124 | 5 => 5 | 9 => 9 | 53 => 181 | 57 => 185 | 63 => 196 | 64 => 137 | n => n, fun | n => n⟩
theorem Tryz.sortM : Go.Proofs.SlLaysM.n6 Tryz.prog Tryz.sortM_ren := {
 mixed := by kernel_rfl
 f6 := ⟨Tryz.f92.name, by decide, Tryz.func92.trans (congrArg some (by kernel_rfl))⟩
 f8 := Tryz.func97.trans (congrArg some (by kernel_rfl))
 f9 := ⟨Tryz.f115.name, by decide, Tryz.func115.trans (congrArg some (by kernel_rfl))⟩
 f19 := Tryz.func129.trans (congrArg some (by kernel_rfl))
 f20 := Tryz.func130.trans (congrArg some (by kernel_rfl))
 f21 := ⟨Tryz.f150.name, by decide, Tryz.func150.trans (congrArg some (by kernel_rfl))⟩
 f22 := ⟨Tryz.f151.name, by decide, Tryz.func151.trans (congrArg some (by kernel_rfl))⟩
 f23 := ⟨Tryz.f152.name, by decide, Tryz.func152.trans (congrArg some (by kernel_rfl))⟩
 f24 := ⟨Tryz.f153.name, by decide, Tryz.func153.trans (congrArg some (by kernel_rfl))⟩
 f25 := ⟨Tryz.f154.name, by decide, Tryz.func154.trans (congrArg some (by kernel_rfl))⟩
 f26 := ⟨Tryz.f155.name, by decide, Tryz.func155.trans (congrArg some (by kernel_rfl))⟩
 f27 := ⟨Tryz.f156.name, by decide, Tryz.func156.trans (congrArg some (by kernel_rfl))⟩
 f28 := ⟨Tryz.f157.name, by decide, Tryz.func157.trans (congrArg some (by kernel_rfl))⟩
 f29 := ⟨Tryz.f158.name, by decide, Tryz.func158.trans (congrArg some (by kernel_rfl))⟩
 f31 := Tryz.func161.trans (congrArg some (by kernel_rfl))
 f32 := Tryz.func162.trans (congrArg some (by kernel_rfl))
 f36 := ⟨Tryz.f172.name, by decide, Tryz.func172.trans (congrArg some (by kernel_rfl))⟩
 f37 := ⟨Tryz.f173.name, by decide, Tryz.func173.trans (congrArg some (by kernel_rfl))⟩
 f38 := ⟨Tryz.f174.name, by decide, Tryz.func174.trans (congrArg some (by kernel_rfl))⟩
 f39 := ⟨Tryz.f175.name, by decide, Tryz.func175.trans (congrArg some (by kernel_rfl))⟩
 f41 := ⟨Tryz.f186.name, by decide, Tryz.func186.trans (congrArg some (by kernel_rfl))⟩
 t0 := Tryz.underlying0
 a0 := Tryz.isAgg0
 z0 := Tryz.sizeOf0
 v0 := Tryz.zeroValue0
 t3 := Tryz.underlying3
 a3 := Tryz.isAgg3
 z3 := Tryz.sizeOf3
 v3 := Tryz.zeroValue3
 t4 := Tryz.underlying4
 a4 := Tryz.isAgg4
 z4 := Tryz.sizeOf4
 v4 := Tryz.zeroValue4
 t5 := Tryz.underlying5
 a5 := Tryz.isAgg5
 z5 := Tryz.sizeOf5
 v5 := Tryz.zeroValue5
 t9 := Tryz.underlying9
 a9 := Tryz.isAgg9
 z9 := Tryz.sizeOf9
 v9 := Tryz.zeroValue9
 t26 := Tryz.underlying88
 a26 := Tryz.isAgg88
 z26 := Tryz.sizeOf88
 v26 := Tryz.zeroValue88
 t27 := Tryz.underlying88
 a27 := Tryz.isAgg88
 z27 := Tryz.sizeOf88
 v27 := Tryz.zeroValue88
 t29 := Tryz.underlying9
 a29 := Tryz.isAgg9
 z29 := Tryz.sizeOf9
 v29 := Tryz.zeroValue9
 t32 := Tryz.underlying131
 a32 := Tryz.isAgg131
 z32 := Tryz.sizeOf131
 v32 := Tryz.zeroValue131
 t35 := Tryz.underlying153
 a35 := Tryz.isAgg153
 z35 := Tryz.sizeOf153
 v35 := Tryz.zeroValue153
 t36 := Tryz.underlying154
 a36 := Tryz.isAgg154
 z36 := Tryz.sizeOf154
 v36 := Tryz.zeroValue154
 t41 := Tryz.underlying124
 a41 := Tryz.isAgg124
 z41 := Tryz.sizeOf124
 v41 := Tryz.zeroValue124
 t44 := Tryz.underlying160
 a44 := Tryz.isAgg160
 z44 := Tryz.sizeOf160
 v44 := Tryz.zeroValue160
 t46 := Tryz.underlying162
 a46 := Tryz.isAgg162
 z46 := Tryz.sizeOf162
 v46 := Tryz.zeroValue162
 t53 := Tryz.underlying181
 a53 := Tryz.isAgg181
 z53 := Tryz.sizeOf181
 v53 := Tryz.zeroValue181
 t57 := Tryz.underlying185
 a57 := Tryz.isAgg185
 z57 := Tryz.sizeOf185
 v57 := Tryz.zeroValue185
 t63 := Tryz.underlying196
 a63 := Tryz.isAgg196
 z63 := Tryz.sizeOf196
 v63 := Tryz.zeroValue196
 t64 := Tryz.underlying137
 a64 := Tryz.isAgg137
 z64 := Tryz.sizeOf137
 v64 := Tryz.zeroValue137 }
end Go.Proofs
namespace Go.Proofs.YtcnciccljblkfaaGreat
open Go.RowKit Go.Maps Go.Sort Go.Shelf

theorem sorts_in (m : Nat) : AnyZ.SortsIn Tryz.prog Tryz.sortedM_ren Fence.wide m :=
 ⟨fun blk off cap ss W hH hblk hsz => callsIn_wide.2 (AnyM.slices_Sort_string Tryz.sortM blk off cap ss W hH hblk hsz),
 fun p cap W => callsIn_wide.2 (AnyM.slices_Sort_string_none Tryz.sortM p cap W)⟩
theorem keys_any (mb : Option Nat) (W : World) : Calls Tryz.prog 57 #[.map mb] W fun e w' => e = .returned (.func (.func 93) #[] #[.pointer (some ⟨W.heap.size, 0, none⟩)]) ∧ w' = W.alloc (.cells #[.map mb] 87) :=
 (callsIn_wide (n := 5)).1 (AnyZ.keys_in Tryz.keysM Fence.wide 5 trivial rfl mb W)
def GivesSs (w w' : World) (e : Ending) (T : List (List UInt8)) : Prop := ∃ v, e = .returned v ∧ w'.ownsRow w.heap.size 9 1 v T.length (T.map encStr) ∧ Below w.heap.size w w'
set_option maxHeartbeats 1000000 in
theorem sortedKeys_any {H : Type} (b nn : Nat) (D0 : DataW H) (R : Value → Option (DataW H × List MemPlace)) (w : World) (hown : w.ownsMap Tryz.prog 9 R b nn D0) (hmax : Maps.size D0 ≤ maxLen) (hbytes : Maps.size D0 * 16 ≤ 140737488355328) :
  Calls Tryz.prog 56 #[.func (.func 93) #[] #[.pointer (some ⟨w.heap.size, 0, none⟩)]] (w.alloc (.cells #[.map (some b)] 87)) fun e w' => ∃ ss : List (List UInt8), ss.Perm (strKeys D0) ∧ GivesSs (w.alloc (.cells #[.map (some b)] 87)) w' e (ss.mergeSort leB) := by
 have hbl := hown.lt
 have hseq : SeqGives Fence.wide 2 Tryz.prog 93 #[.pointer (some ⟨w.heap.size, 0, none⟩)] encStr (fun ss => ss.Perm (strKeys D0)) (Maps.size D0) (w.alloc (.cells #[.map (some b)] 87)) :=
  AnyZ.keys_gives (ρ := Tryz.keysM_ren) { Tryz.keysM with } Fence.wide _ trivial rfl (by omega) w.heap.size b nn D0 _ (by simp) (by simp) (by
   obtain ⟨es, clock, hb, Ft, hs, hD⟩ := hown
   exact ⟨es, clock, (Below.heap_alloc _ _ b hbl).trans hb, Ft, hs, hD⟩)
 have h := AnyZ.sorted_in Tryz.sortedM Fence.wide 5 trivial trivial trivial trivial rfl (by omega) (sorts_in _) (enters_of Tryz.func92 (by kernel_rfl) rfl) 93 #[.pointer (some ⟨w.heap.size, 0, none⟩)] trivial (enters_of Tryz.func93 (by kernel_rfl) rfl) _ _ hmax hbytes _ hseq
 refine ((callsIn_wide (n := 5)).1 h).mono ?_
 rintro e w' ⟨v, ss, rfl, hS, hrow, _, hb⟩
 refine ⟨ss, hS, v, rfl, ?_, hb⟩
 have e1 : (ss.mergeSort leB).length = ss.length := (List.mergeSort_perm ss leB).length_eq
 rw [e1]
 exact hrow
end Go.Proofs.YtcnciccljblkfaaGreat
namespace Go.Proofs.YtcnciccljblkfaaGreat
open Go.RowKit

def mP (P : Pst) : Nat → Int → Prop := fun r n => mem (runsAt P r) n
def mOr (M M' : Nat → Int → Prop) : Nat → Int → Prop := fun r n => M r n ∨ M' r n
def mAnd (M M' : Nat → Int → Prop) : Nat → Int → Prop := fun r n => M r n ∧ M' r n
def mNot (M M' : Nat → Int → Prop) : Nat → Int → Prop := fun r n => M r n ∧ ¬ M' r n
def IsP (M : Nat → Int → Prop) (P : Pst) : Prop := ∃ C, CanonOf C P ∧ ∀ r, r < 16 → ∀ n, mem (C r) n ↔ M r n
def Eqv (M M' : Nat → Int → Prop) : Prop := ∀ r, r < 16 → ∀ n, M r n ↔ M' r n
theorem isP_minus {a b : Pst} {P : Pst} (h : ∃ C : Nat → List Rn, (∀ r, r < 16 → MinusOf (runsAt a r) (runsAt b r) (C r)) ∧ CanonOf C P) : IsP (mNot (mP a) (mP b)) P := by
 obtain ⟨C, hM, hC⟩ := h
 exact ⟨C, hC, fun r hr n => (hM r hr).2 n⟩
def SzP (M : Nat → Int → Prop) (z : Int) : Prop := ∃ N, (∀ r, r < 16 → form 1 (N r) ∧ ∀ n, Go.Proofs.YtcnciccljblkfaaGreat.mem (N r) n ↔ M r n) ∧ z = sumZ N 16
theorem SzP.none : SzP (fun _ _ => False) 0 := ⟨fun _ => [], fun _ _ => ⟨trivial, fun n => ⟨fun h => mem_nil n h, fun h => h.elim⟩⟩, by decide⟩
end Go.Proofs.YtcnciccljblkfaaGreat
namespace Go.Proofs.YtcnciccljblkfaaGreat
open Go.RowKit Go.Maps Go.Sort
theorem OwnRc.setOther {B : Nat} {w W : World} {h : Hs} {L : List Rc} (O : OwnRc B w W h L) (g : Nat) (cs : Array Value) (hg : w.heap.size ≤ g) (hne : (HsV h).ownBlock ≠ some g) (hf : ∀ r ∈ L, PFar r.p g) : OwnRc B w (W.setRow g cs) h L := by
 have hs : (W.setRow g cs).heap.size = W.heap.size := by simp [World.setRow]
 have hk : ∀ q, q < W.heap.size → some q ≠ some g → (W.setRow g cs).heap[q]? = W.heap[q]? := fun q _ hq => setRow_other _ _ _ _ (fun e => hq (by rw [e]))
 have hG : W.grownBy (W.setRow g cs) (some g) := ⟨rfl, rfl, rfl, by omega, hk⟩
 exact ⟨O.own.kept hG (.inr hne), fun r hr => ⟨⟨psrc_keep (O.ok r hr).1.1 (fun k e => by obtain rfl := Option.some.inj e; exact hf r hr) hk, (O.ok r hr).1.2⟩, (O.ok r hr).2⟩, below_setRow O.below hg, O.hB.1, by have := O.hB.2; omega⟩
def ofS (R : List Rc) (s : ByteArray) : List Pv := (R.filter (fun r => decide (r.s = s))).map (fun r => r.p)
theorem ofS_len (R : List Rc) (s : ByteArray) : (ofS R s).length ≤ R.length := by unfold ofS; rw [List.length_map]; exact List.length_filter_le _ _
theorem ofS_snoc (R : List Rc) (r : Rc) (s : ByteArray) : pvs (ofS (R ++ [r]) s) = if s = r.s then pvs (ofS R s) ++ (PC r.p).toList else pvs (ofS R s) := by
 unfold ofS
 rw [List.filter_append, List.map_append, pvs_append]
 by_cases h : s = r.s
 ·subst h; simp [pvs_one]
 ·have h' : ¬ r.s = s := fun e => h e.symm
  simp [h, h', pvs]
theorem ofS_mem {R : List Rc} {s : ByteArray} {p : Pv} : p ∈ ofS R s ↔ ∃ r ∈ R, r.s = s ∧ r.p = p := by
 unfold ofS
 rw [List.mem_map]
 constructor
 ·rintro ⟨r, hr, rfl⟩
  have := List.mem_filter.1 hr
  exact ⟨r, this.1, by simpa using this.2, rfl⟩
 ·rintro ⟨r, hr, hs, rfl⟩
  exact ⟨r, List.mem_filter.2 ⟨hr, by simpa using hs⟩, rfl⟩
theorem runsOf_mem (X : List Pv) (r : Nat) (n : Int) : mem (runsOf X r) n ↔ ∃ p ∈ X, mem (runsAt p.P r) n := by
 induction X with
 | nil => simp [runsOf, mem]
 | cons p X ih =>
  have e : runsOf (p :: X) r = runsAt p.P r ++ runsOf X r := rfl
  rw [e, mem_append, ih]
  simp
def nilF : ByteArray := ⟨#[]⟩
def FoldM (R : List Rc) (s : ByteArray) (r : Nat) (n : Int) : Prop := (∃ x ∈ R, x.s = s ∧ mem (runsAt x.p.P r) n) ∧ (s ≠ nilF → ¬ ∃ x ∈ R, x.s = nilF ∧ mem (runsAt x.p.P r) n)
theorem join_all {R : List Rc} {s : ByteArray} {P : Pst} (h : CanonOf (runsOf (ofS R s)) P) (r : Nat) (hr : r < 16) (n : Int) : mem (runsAt P r) n ↔ ∃ x ∈ R, x.s = s ∧ mem (runsAt x.p.P r) n := by
 rw [canon_mem h r hr n, runsOf_mem]
 constructor
 ·rintro ⟨p, hp, hm⟩
  obtain ⟨x, hx, hs, rfl⟩ := ofS_mem.1 hp
  exact ⟨x, hx, hs, hm⟩
 ·rintro ⟨x, hx, hs, hm⟩
  exact ⟨x.p, ofS_mem.2 ⟨x, hx, hs, rfl⟩, hm⟩
theorem fold_nil {R : List Rc} {P : Pst} (h : CanonOf (runsOf (ofS R nilF)) P) : IsP (FoldM R nilF) P :=
 ⟨_, h, fun r hr n => by
  rw [← canon_mem h r hr n, join_all h r hr n]
  exact ⟨fun h => ⟨h, fun e => absurd rfl e⟩, fun h => h.1⟩⟩
theorem fold_sku {R : List Rc} {s : ByteArray} {P A M : Pst} (hs : s ≠ nilF) (h : CanonOf (runsOf (ofS R s)) P) (ha : CanonOf (runsOf (ofS R nilF)) A) (hm : ∃ C : Nat → List Rn, (∀ r, r < 16 → MinusOf (runsAt P r) (runsAt A r) (C r)) ∧ CanonOf C M) : IsP (FoldM R s) M := by
 obtain ⟨C, hC, hI⟩ := isP_minus hm
 refine ⟨C, hC, fun r hr n => (hI r hr n).trans ?_⟩
 show mem (runsAt P r) n ∧ ¬ mem (runsAt A r) n ↔ _
 rw [join_all h r hr n, join_all ha r hr n]
 exact ⟨fun h => ⟨h.1, fun _ => h.2⟩, fun h => ⟨h.1, h.2 hs⟩⟩
def FoldOf (R F : List Rc) : Prop := F.Pairwise (fun a b => cmpS a.s b.s < 0) ∧ (∀ x ∈ F, (∃ r ∈ R, r.s = x.s) ∧ IsP (FoldM R x.s) x.p.P ∧ ¬ EmptyP x.p.P) ∧ ∀ s, (∃ r ∈ R, r.s = s) → (∀ x ∈ F, x.s ≠ s) → ∀ r, r < 16 → ∀ n, ¬ FoldM R s r n
def FPre (R : List Rc) (T : List (List UInt8)) (F : List Rc) : Prop := (F.map (fun x => x.s.data.toList)).Sublist T ∧ (∀ x ∈ F, IsP (FoldM R x.s) x.p.P ∧ ¬ EmptyP x.p.P) ∧ ∀ t ∈ T, (∀ x ∈ F, x.s ≠ ⟨t.toArray⟩) → ∀ r, r < 16 → ∀ n, ¬ FoldM R ⟨t.toArray⟩ r n
theorem FPre.start (R : List Rc) : FPre R [] [] := ⟨List.Sublist.refl _, fun x h => (by cases h), fun t h => (by cases h)⟩
theorem FPre.skip {R F : List Rc} {T : List (List UInt8)} (h : FPre R T F) (t : List UInt8) (he : ∀ r, r < 16 → ∀ n, ¬ FoldM R ⟨t.toArray⟩ r n) : FPre R (T ++ [t]) F := by
 refine ⟨h.1.trans (List.sublist_append_left _ _), h.2.1, fun u hu hn => ?_⟩
 rcases List.mem_append.1 hu with hu | hu
 ·exact h.2.2 u hu hn
 ·obtain rfl : u = t := by simpa using hu
  exact he
theorem FPre.add {R F : List Rc} {T : List (List UInt8)} (h : FPre R T F) (t : List UInt8) (x : Rc) (hx : x.s = ⟨t.toArray⟩) (hI : IsP (FoldM R x.s) x.p.P) (hE : ¬ EmptyP x.p.P) : FPre R (T ++ [t]) (F ++ [x]) := by
 refine ⟨?_, fun y hy => ?_, fun u hu hn => ?_⟩
 ·rw [List.map_append]
  refine h.1.append ?_
  simp [hx]
 ·rcases List.mem_append.1 hy with hy | hy
  ·exact h.2.1 y hy
  ·obtain rfl : y = x := by simpa using hy
   exact ⟨hI, hE⟩
 ·rcases List.mem_append.1 hu with hu | hu
  ·exact h.2.2 u hu (fun y hy => hn y (List.mem_append_left _ hy))
  ·obtain rfl : u = t := by simpa using hu
   exact absurd hx (hn x (by simp))
theorem FPre.done {R F : List Rc} {T : List (List UInt8)} (h : FPre R T F) (hT : T.Pairwise (fun a b => Lib.compareBytes a b < 0)) (hK : ∀ t, t ∈ T ↔ ∃ r ∈ R, r.s = ⟨t.toArray⟩) : FoldOf R F := by
 refine ⟨List.pairwise_map.1 (hT.sublist h.1), fun x hx => ⟨?_, h.2.1 x hx⟩, fun s hs hn => ?_⟩
 ·have := (hK x.s.data.toList).1 (h.1.subset (List.mem_map.2 ⟨x, hx, rfl⟩))
  simpa using this
 ·have hm : s.data.toList ∈ T := (hK _).2 (by simpa using hs)
  have := h.2.2 _ hm (by simpa using hn)
  simpa using this
end Go.Proofs.YtcnciccljblkfaaGreat

