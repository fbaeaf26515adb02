/- BMr BPr BPg TShg TUc BS1 BLi BSo -/
import Derived.Test.YtaphmhbmhcahaaaGreatTk
import Derived.Test.YtaphmhbmhcahaaaGreatSe24
import Derived.Below
import Derived.Maps.AppendAt
import Derived.Laws.OwnMore
import Derived.Test.YtaphmhbmhcahaaaGreatSe07
import Derived.Test.YtaphmhbmhcahaaaGreatSe18
import Derived.Shelf.Spec.SlicesGrow
import Derived.Test.YtaphmhbmhcahaaaGreatProg
import Derived.Test.YtaphmhbmhcahaaaGreatSe20
import Derived.Laws.AppendOwnNone
import Derived.Deep.LoopGhost
import Derived.Test.YtaphmhbmhcahaaaGreatSe00
import Derived.Test.YtaphmhbmhcahaaaGreatSe10
import Derived.Deep.CutRange
set_option maxRecDepth 100000
set_option maxHeartbeats 1600000
namespace Go.Proofs.YtaphmhbmhcahaaaGreat
section
open Go.RowKit Go.Maps Go.Sort
variable {P : Program} {kt et : TypeId} {size B : Nat} {w W W2 : World} {b k : Nat} {K : ByteArray -> Prop} {f : ByteArray -> Hs} {X : ByteArray -> List Value}
structure MRo (P : Program) (kt et : TypeId) (size B : Nat) (w W : World) (b k : Nat) (K : ByteArray -> Prop) (f : ByteArray -> Hs) (X : ByteArray -> List Value) : Prop where
 map : ∃ D, W.ownsMap P kt RSl b k D /\ MpS D K f
 rows : ∀ s, W.ownsRow B et size (HsV (f s)) (f s).n (X s)
 apart : ∀ s t, s ≠ t -> ∀ g, (HsV (f s)).ownBlock = some g -> (HsV (f t)).ownBlock ≠ some g
 below : Below w.heap.size w W
 hb : w.heap.size <= b /\ b < B /\ B <= W.heap.size
theorem grown_of_below (h : Below W.heap.size W W2) : W.grownBy W2 none := ⟨h.os, h.tape, h.output, h.size, fun k hk _ => h.block k hk⟩
structure MRm (P : Program) (kt et : TypeId) (size B : Nat) (w W : World) (b k : Nat) (K : ByteArray -> Prop) (f : ByteArray -> Hs) (X : ByteArray -> List Value) (s : ByteArray) (x : Hs) (Y : List Value) : Prop where
 map : ∃ D, W.ownsMap P kt RSl b k D /\ MpS D K f
 row : W.ownsRow B et size (HsV x) x.n Y
 rows : ∀ t, t ≠ s -> W.ownsRow B et size (HsV (f t)) (f t).n (X t)
 apart : ∀ t u, t ≠ u -> ∀ g, (HsV (f t)).ownBlock = some g -> (HsV (f u)).ownBlock ≠ some g
 apartS : ∀ t, t ≠ s -> ∀ g, (HsV (f t)).ownBlock = some g -> (HsV x).ownBlock ≠ some g
 below : Below w.heap.size w W
 hb : w.heap.size <= b /\ b < B /\ B <= W.heap.size
theorem seq_appM {W W2 : World} {ops : Array Oper} {rest : List Oper} {o : Oper} {a : Act} {Q : Exit -> Act -> World -> Prop} {v1 v2 v' : Value} {st : TypeId} (hgd : o.guard = none) (s x : Operand) (ho : o.op = .call { callee := .builtin .append, args := #[s, x], argTypes := #[st, st] })
  (hs : a.eval s = v1) (hx : a.eval x = v2) (hrun : (Builtin.append_ #[st, st] o.type #[v1, v2]).run P W = .ok v' W2) (hK : wpList P ops Q rest (a.put o.dst v') W2) : wpList P ops Q (o :: rest) a W :=
 wpList_plain hgd fun K hKK => by
  unfold Oper.wp
  simp [execOp, ho, resolve, invoke, builtin, hs, hx, hrun, Result.andThen]
  exact hKK _ _ hK
end
section
open Go.RowKit Go.Maps Go.Sort
def pvs (L : List Pv) : List Value := (L.map (fun p => (PC p).toList)).flatten
theorem pvs_append (L R : List Pv) : pvs (L ++ R) = pvs L ++ pvs R := by simp [pvs]
theorem pvs_one (p : Pv) : pvs [p] = (PC p).toList := by simp [pvs]
theorem pvs_cell (p : Pv) : ∀ v ∈ (PC p).toList, v.oneCell' = true := by
 intro v hv; simp [PC] at hv; rcases hv with rfl | rfl <;> rfl
theorem infoPast : (Tryz.prog.info? 26).map (fun i => (i.zero, i.size, i.bytes)) = some (some (.agg #[.slice none 0 0, .slice none 0 0]), 2, 48) := by kernel_rfl
structure OwnP (B : Nat) (w W : World) (h : Hs) (L : List Pv) : Prop where
 own : W.ownsRow B 26 2 (HsV h) h.n (pvs L)
 src : ∀ p ∈ L, PSrc W p
 below : Below w.heap.size w W
 hB : w.heap.size <= B /\ B <= W.heap.size
theorem OwnP.nil (w : World) : OwnP w.heap.size w w hs0 [] := ⟨World.ownsRow_nil _ _ _ _, fun p h => (by cases h), Below.refl _ _, Nat.le_refl _, Nat.le_refl _⟩
end
section
open Go.RowKit Go.Maps Go.Sort
theorem psrc_keep {W W' : World} {p : Pv} {g : Option Nat} (h : PSrc W p) (hf : ∀ k, g = some k -> PFar p k) (hk : ∀ q, q < W.heap.size -> some q ≠ g -> W'.heap[q]? = W.heap[q]?) : PSrc W' p := by
 have ev : ∀ ad, p.vo = some ad -> ∀ t, t < p.vn -> W'.cell? (ad.add t) = W.cell? (ad.add t) := fun ad e t ht => by
  have hc := h.vec.2.2 ad e t ht
  have hl := World.block_lt_of_cell? _ _ hc
  rw [block_add] at hl
  unfold World.cell?
  rw [block_add, hk _ hl (fun eg => (hf _ eg.symm).1 (by omega) ad e rfl)]
 have ec : ∀ ad, p.co = some ad -> ∀ t, t < p.cn -> ∀ j, W'.cell? (ad.add j) = W.cell? (ad.add j) := fun ad e t ht j => by
  have hl := World.block_lt_of_cell? _ _ (h.cloud.cell ad e t ht).c0
  rw [block_add] at hl
  unfold World.cell?
  rw [block_add, hk _ hl (fun eg => (hf _ eg.symm).2 (by omega) ad e rfl)]
 refine ⟨⟨h.vec.1, h.vec.2.1, fun ad e t ht => by rw [ev ad e t ht]; exact h.vec.2.2 ad e t ht⟩, ⟨h.cloud.len, h.cloud.nil, fun ad e t ht => ?_, h.cloud.big, h.cloud.cap⟩, h.big⟩
 have A := h.cloud.cell ad e t ht
 have e' := ec ad e t ht
 exact ⟨by rw [e']; exact A.c0, by have := A.c1; rw [add_add] at this ⊢; rw [e']; exact this, by have := A.c2; rw [add_add] at this ⊢; rw [e']; exact this⟩
def FarH (h : Hs) (p : Pv) : Prop := ∀ k, (HsV h).ownBlock = some k -> PFar p k
def rvs (L : List Rc) : List Value := (L.map (fun r => (ReC (mkR r)).toList)).flatten
theorem rvs_append (L R : List Rc) : rvs (L ++ R) = rvs L ++ rvs R := by simp [rvs]
theorem rvs_one (r : Rc) : rvs [r] = (ReC (mkR r)).toList := by simp [rvs]
theorem rvs_length (L : List Rc) : (rvs L).length = L.length * 3 := by
 induction L with
 | nil => rfl
 | cons a L ih => have : rvs (a :: L) = (ReC (mkR a)).toList ++ rvs L := rfl; rw [this, List.length_append, ih]; simp [ReC]; omega
theorem rvs_at (L : List Rc) (t j : Nat) (ht : t < L.length) (hj : j < 3) : (rvs L)[t * 3 + j]? = (ReC (mkR (L.getD t rc0))).toList[j]? := by
 induction L generalizing t with
 | nil => simp at ht
 | cons a L ih =>
  have e : rvs (a :: L) = (ReC (mkR a)).toList ++ rvs L := rfl
  cases t with
  | zero => rw [e, List.getElem?_append_left (by simp [ReC]; omega)]; simp [List.getD]
  | succ t =>
   rw [e, List.getElem?_append_right (by simp [ReC]; omega)]
   have h := ih t (by simpa using ht)
   have e4 : (t + 1) * 3 + j - (ReC (mkR a)).toList.length = t * 3 + j := by simp [ReC]; omega
   rw [e4, h]; simp [List.getD]
theorem rvs_cell (r : Rc) : ∀ v ∈ (ReC (mkR r)).toList, v.oneCell' = true := by
 intro v hv; simp [ReC] at hv; rcases hv with rfl | rfl | rfl <;> rfl
theorem infoRec : (Tryz.prog.info? 80).map (fun i => (i.zero, i.size, i.bytes)) = some (some (.agg #[.string ⟨#[]⟩, .slice none 0 0, .slice none 0 0]), 3, 64) := by kernel_rfl
structure OwnRc (B : Nat) (w W : World) (h : Hs) (L : List Rc) : Prop where
 own : W.ownsRow B 80 3 (HsV h) h.n (rvs L)
 ok : ∀ r ∈ L, RcOk W r /\ FarH h r.p
 below : Below w.heap.size w W
 hB : w.heap.size <= B /\ B <= W.heap.size
theorem OwnRc.nil (w : World) : OwnRc w.heap.size w w hs0 [] := ⟨World.ownsRow_nil _ _ _ _, fun p h => (by cases h), Below.refl _ _, Nat.le_refl _, Nat.le_refl _⟩
theorem OwnRc.later {B : Nat} {w W W2 : World} {h : Hs} {L : List Rc} (O : OwnRc B w W h L) (hb : Below W.heap.size W W2) : OwnRc B w W2 h L := by
 refine ⟨O.own.kept (grown_of_below hb) ?_, fun p hp => ⟨(O.ok p hp).1.below hb, (O.ok p hp).2⟩, O.below.trans (hb.mono O.below.size), O.hB.1, Nat.le_trans O.hB.2 hb.size⟩
 cases (HsV h).ownBlock with
 | none => exact .inl rfl
 | some g => exact .inr (by simp)
theorem OwnRc.app {B : Nat} {w W : World} {h : Hs} {L : List Rc} (O : OwnRc B w W h L) (r : Rc) (hp : RcOk W r) (hf : FarH h r.p) (hn : h.n <= 2199023255551) :
  ∃ g c2 W2, (Builtin.append_ #[27, 27] 27 #[HsV h, .slice (some ⟨W.heap.size, 0, none⟩) 1 1]).run Tryz.prog (W.alloc (.cells (ReC (mkR r)) 80)) = .ok (.slice (some ⟨g, 0, none⟩) (h.n + 1) c2) W2 /\ OwnRc B w W2 ⟨some ⟨g, 0, none⟩, h.n + 1, c2⟩ (L ++ [r]) /\ (∀ q, q < W.heap.size -> (HsV h).ownBlock ≠ some q -> W2.heap[q]? = W.heap[q]?) := by
 obtain ⟨i0, hi, hz0, hz1, hz2⟩ := info_parts infoRec
 have b1 := below_new W (.cells (ReC (mkR r)) 80)
 have O1 := O.later b1
 obtain ⟨v', W2, hrun, hown, hgrow, _, hat⟩ := run_append_own_at (P := Tryz.prog) (W.alloc (.cells (ReC (mkR r)) 80)) B 27 27 80 i0 (.agg #[.string ⟨#[]⟩, .slice none 0 0, .slice none 0 0]) 3 64 Tryz.underlying27 hi hz0 hz1 hz2 (by simp [Value.cells]) (by decide) (HsV h) h.n (rvs L) O1.own ⟨W.heap.size, 0, none⟩ 1 1 (ReC (mkR r)).toList rfl (fun j u hj => by
  rw [Addr.add_lit, Nat.zero_add, World.cell?_alloc_new]
  simpa using hj) (rvs_cell r) (by unfold maxLen; omega) (by omega) O1.hB.2
 rcases hown.2 with ⟨h0, h00⟩ | ⟨g, cap2, cur, hv, hbg, hgg, hnc, hcm, hcsz, htake⟩
 ·omega
 ·subst hv
  have hall : ∀ q ∈ L ++ [r], RcOk (W.alloc (.cells (ReC (mkR r)) 80)) q /\ FarH h q.p := fun q hq => by
   rcases List.mem_append.1 hq with hq | hq
   ·exact O1.ok q hq
   ·obtain rfl : q = r := by simpa using hq
    exact ⟨hp.below b1, hf⟩
  have hrow : ∀ k, (HsV h).ownBlock = some k -> B <= k := fun k hk => (O1.own.lt k hk).1
  refine ⟨g, cap2, W2, hrun, ⟨by rw [rvs_append, rvs_one]; exact hown, fun q hq => ⟨⟨psrc_keep (hall q hq).1.1 (fun k hk => (hall q hq).2 k hk) (fun k hk hn => hgrow.block k hk hn), (hall q hq).1.2⟩, fun k hk => ?_⟩, O1.below.grown hgrow O1.below.size (fun k hk => by have := hrow k hk; have := O.hB; omega), O.hB.1, Nat.le_trans O1.hB.2 hgrow.size⟩, fun q hq hn => (hgrow.block q (by simp; omega) (fun e => hn e.symm)).trans (Below.heap_alloc W _ q hq)⟩
  rcases hat with e | e
  ·exact (hall q hq).2 k (by rw [<- e]; exact hk)
  ·rw [e] at hk
   have := Option.some.inj hk
   exact PFar.old (hall q hq).1.1 (by omega)
theorem OwnRc.src {B : Nat} {w W : World} {h : Hs} {L : List Rc} (O : OwnRc B w W h L) (hn : h.n <= 2199023255552) : RcS W h.o h.n h.c L := by
 have hl : L.length = h.n := by have := O.own.1; rw [rvs_length] at this; omega
 have hok : ∀ r ∈ L, RcOk W r := fun r hr => (O.ok r hr).1
 have hr := O.own
 obtain ⟨o, n, c⟩ := h
 rcases hr.2 with ⟨h0, h00⟩ | ⟨g, cap, cur, hv, hbg, hgg, hnc, hcm, hcsz, htake⟩
 ·refine ⟨hl, fun _ => h00, fun ad e t ht => ?_, hok, hn⟩
  omega
 ·simp only [Value.slice.injEq] at hv
  obtain ⟨rfl, -, rfl⟩ := hv
  refine ⟨hl, fun e => (by cases e), fun ad e t ht => ?_, hok, hn⟩
  obtain rfl : (⟨g, 0, none⟩ : Addr) = ad := Option.some.inj e
  have hc : ∀ j, j < 3 -> W.cell? ⟨g, t * 3 + j, none⟩ = (ReC (mkR (L.getD t rc0))).toList[j]? := fun j hj => by
   have h1 := World.ownsRow.cellAt hr (t * 3 + j) (by dsimp only at ht ⊢; omega)
   rw [h1, rvs_at L t j (by omega) hj]
  refine ⟨?_, ?_, ?_⟩
  ·rw [Addr.add_lit, Nat.zero_add]
   exact hc 0 (by omega)
  ·rw [Addr.add_lit, Addr.add_lit, Nat.zero_add]
   exact hc 1 (by omega)
  ·rw [Addr.add_lit, Addr.add_lit, Nat.zero_add]
   exact hc 2 (by omega)
end
end Go.Proofs.YtaphmhbmhcahaaaGreat
namespace Go.Proofs
open Go.Shelf
def Tryz.growRe_ren : Go.Shelf.Ren := ⟨fun | 4 => 120 | n => n, fun | 22 => 27 | 25 => 80 | 3 => 3 | 4 => 4 | 9 => 9 | 20 => 20 | 0 => 0 | n => n, fun | n => n⟩
end Go.Proofs
namespace Go.Proofs.YtaphmhbmhcahaaaGreat
section
open Go.RowKit Go.Lib Go.Maps Go.Sort
theorem RcS.cells {w : World} {ad : Addr} {n cap : Nat} {L : List Rc} (h : RcS w (some ad) n cap L) : ∀ j u, (rvs L)[j]? = some u -> w.cell? (ad.add j) = some u := fun j u hj => by
 have hlt : j < L.length * 3 := by
  have := (List.getElem?_eq_some_iff.1 hj).1
  rwa [rvs_length] at this
 have hn := h.len
 have ht : j / 3 < n := by omega
 have A := h.at_ ad rfl (j / 3) ht
 have e : j = j / 3 * 3 + j % 3 := by omega
 have hm : j % 3 < 3 := Nat.mod_lt _ (by decide)
 rw [e, rvs_at L (j / 3) (j % 3) (by omega) hm] at hj
 have hc : ∀ i, i < 3 -> w.cell? ((ad.add (j / 3 * 3)).add i) = (ReC (mkR (L.getD (j / 3) rc0))).toList[i]? := by
  intro i hi
  match i, hi with
  | 0, _ => rw [add_zero]; exact A.c0
  | 1, _ => exact A.c1
  | 2, _ => exact A.c2
 rw [e, <- add_add, hc _ hm, hj]
theorem OwnRc.appAt {B : Nat} {w W : World} {h : Hs} {L : List Rc} (O : OwnRc B w W h L) (r : Rc) (hp : RcOk W r) (hf : FarH h r.p) (hn : h.n <= 2199023255551) :
  ∃ g c2 W2, (Builtin.append_ #[27, 27] 27 #[HsV h, .slice (some ⟨W.heap.size, 0, none⟩) 1 1]).run Tryz.prog (W.alloc (.cells (ReC (mkR r)) 80)) = .ok (.slice (some ⟨g, 0, none⟩) (h.n + 1) c2) W2 /\ OwnRc B w W2 ⟨some ⟨g, 0, none⟩, h.n + 1, c2⟩ (L ++ [r]) /\ (∀ q, q < W.heap.size -> (HsV h).ownBlock ≠ some q -> W2.heap[q]? = W.heap[q]?) /\ ((HsV h).ownBlock = some g ∨ W.heap.size <= g) /\ W.heap.size <= W2.heap.size := by
 obtain ⟨i0, hi, hz0, hz1, hz2⟩ := info_parts infoRec
 have b1 := below_new W (.cells (ReC (mkR r)) 80)
 have O1 := O.later b1
 obtain ⟨v', W2, hrun, hown, hgrow, _, hat⟩ := run_append_own_at (P := Tryz.prog) (W.alloc (.cells (ReC (mkR r)) 80)) B 27 27 80 i0 (.agg #[.string ⟨#[]⟩, .slice none 0 0, .slice none 0 0]) 3 64 Tryz.underlying27 hi hz0 hz1 hz2 (by simp [Value.cells]) (by decide) (HsV h) h.n (rvs L) O1.own ⟨W.heap.size, 0, none⟩ 1 1 (ReC (mkR r)).toList rfl (fun j u hj => by
  rw [Addr.add_lit, Nat.zero_add, World.cell?_alloc_new]
  simpa using hj) (rvs_cell r) (by unfold maxLen; omega) (by omega) O1.hB.2
 obtain ⟨g, cap2, W3, hrun3, O3, hk3⟩ := O.app r hp hf hn
 rw [hrun] at hrun3
 have e1 : v' = .slice (some ⟨g, 0, none⟩) (h.n + 1) cap2 := by cases hrun3; rfl
 have e2 : W2 = W3 := by cases hrun3; rfl
 subst e1 e2
 refine ⟨g, cap2, W2, hrun, O3, hk3, ?_, by have h1 := hgrow.size; rw [World.size_alloc] at h1; omega⟩
 rcases hat with e | e
 ·exact .inl e.symm
 ·refine .inr ?_
  have h1 := Option.some.inj (e.symm.trans (rfl : (Value.slice (some ⟨g, 0, none⟩) (h.n + 1) cap2).ownBlock = some g))
  simp at h1
  omega
theorem farH_of {w W : World} {B : Nat} {h : Hs} {L : List Rc} (O : OwnRc B w W h L) {p : Pv} (hp : PSrc w p) : FarH h p := fun k hk => PFar.old hp (Nat.le_trans O.hB.1 (O.own.lt k hk).1)
end
section
open Go.RowKit
end
section
open Go.RowKit
theorem vsrc_lit (w : World) (T : TypeId) (C : Array Value) (Z : List Int) (hC : C = (Z.map fun x => Value.int .i64 x).toArray) (g n : Nat) (hg : w.heap.size = g) (hn : Z.length = n) : V.Src (w.alloc (.cells C T)) (some ⟨g, 0, none⟩) n n Z := by
 subst hg hn hC
 refine ⟨rfl, (fun h => by cases h), fun ad h t ht => ?_⟩
 obtain rfl := Option.some.inj h
 have h1 := heap_alloc_new w (.cells (Z.map fun x => Value.int .i64 x).toArray T)
 rw [Addr.add_lit, Nat.zero_add]
 simp only [World.cell?, h1]
 simp [ht]
def bldP (a : Array (Nat × Value)) : Sem Value := Instr.build 26 a
theorem bldP_eq (a : Array (Nat × Value)) : Instr.build 26 a = bldP a := rfl
theorem run_bldP1 (a : Option Addr) (n c : Nat) (w : World) : (bldP #[(0, .slice a n c)]).run Tryz.prog w = .ok (.agg #[.slice a n c, .slice none 0 0]) w := by kernel_rfl
def bldR (a : Array (Nat × Value)) : Sem Value := Instr.build 80 a
theorem bldR_eq (a : Array (Nat × Value)) : Instr.build 80 a = bldR a := rfl
theorem run_bldRp (s : ByteArray) (p : Pv) (w : World) : (bldR #[(0, .string s), (1, .agg (PC p))]).run Tryz.prog w = .ok (.agg (ReC (mkR ⟨s, p⟩))) w := by kernel_rfl
def bldE (a : Array (Nat × Value)) : Sem Value := Instr.build 66 a
theorem bldE_eq (a : Array (Nat × Value)) : Instr.build 66 a = bldE a := rfl
theorem run_bldE (a b q : Int) (s : ByteArray) (w : World) : (bldE #[(0, .agg #[.int .i64 a, .int .i64 b]), (1, .string s), (2, .int .i64 q)]).run Tryz.prog w = .ok (.agg #[.int .i64 a, .int .i64 b, .string s, .int .i64 q]) w := by kernel_rfl
def bldD (a : Array (Nat × Value)) : Sem Value := Instr.build 43 a
theorem bldD_eq (a : Array (Nat × Value)) : Instr.build 43 a = bldD a := rfl
theorem run_bldD (a b : Int) (w : World) : (bldD #[(0, .int .i64 a), (1, .int .i64 b)]).run Tryz.prog w = .ok (.agg #[.int .i64 a, .int .i64 b]) w := by kernel_rfl
def bldSp (a : Array (Nat × Value)) : Sem Value := Instr.build 122 a
theorem bldSp_eq (a : Array (Nat × Value)) : Instr.build 122 a = bldSp a := rfl
theorem run_bldSp (a b c : Int) (w : World) : (bldSp #[(0, .int .i64 a), (1, .int .i64 b), (2, .int .i64 c)]).run Tryz.prog w = .ok (.agg #[.int .i64 a, .int .i64 b, .int .i64 c]) w := by kernel_rfl
end
section
open Go.RowKit Go.Maps Go.Sort
attribute [local go_sem ↓] ldP_eq stP_eq ldRe_eq stRe_eq bldR_eq run_bldRp
attribute [local go_sem] cells_PV PC_size cells_ReV ReC_size zero_ReC
def CpA (w w' : World) (x : Ending) (r : Rc) : Prop := ∃ c : Rc, x = .returned (ReV (mkR c)) /\ c.s = r.s /\ RcOk w' c /\ PNew w.heap.size c.p /\ Below w.heap.size w w' /\ CanonOf (runsAt r.p.P) c.p.P
theorem copied_any (r : Rc) (w : World) (hR : RcOk w r) : Calls Tryz.prog 74 #[ReV (mkR r)] w fun x w' => CpA w w' x r := by
 have b1 := below_new w (.cells (ReC (mkR r)) 80)
 have b2 := below_new (w.alloc (.cells (ReC (mkR r)) 80)) (.cells (ReC re0) 80)
 have HXA := hide ((ReBox_new w (mkR r)).below b2)
 have X2 := ReBox_new (w.alloc (.cells (ReC (mkR r)) 80)) re0
 rw [World.size_alloc] at X2
 have HXB := hide X2
 have HBK := hide (b1.trans (b2.mono b1.size))
 have HS := hide (hR.1.below HBK.out)
 have HZ : Hid (r.s.size <= maxLen) := hR.2
 clear b1 b2 X2 hR
 obtain ⟨wk, hwk⟩ : ∃ wk, (w.alloc (.cells (ReC (mkR r)) 80)).alloc (.cells (ReC re0) 80) = wk := ⟨_, rfl⟩
 obtain ⟨G, HG⟩ : ∃ G, Hid (w.heap.size = G) := ⟨_, rfl⟩
 have hG := HG.out
 rw [hwk] at HXA HXB HBK HS
 rw [hG] at HXA HXB
 have HSt : Hid (∀ W : World, W.heap[G]? = wk.heap[G]? -> W.cell? ⟨G, 0, none⟩ = some (.string r.s) /\ (ldP (.pointer (some ⟨G, 1, none⟩))).run Tryz.prog W = .ok (.agg #[.slice r.p.vo r.p.vn r.p.vc, .slice r.p.co r.p.cn r.p.cc]) W) := fun W h => by
  have X : ReBox W G (mkR r) := h.trans HXA.out
  exact ⟨X.sk, run_ldP X.past⟩
 go_enter Tryz.func74, Tryz.ntmps74
 go_upto_region 1 with fail
 clear hwk
 refine wp_region_held_drew (S := fun W => W.cell? ⟨G, 0, none⟩ = some (.string r.s) /\ (ldP (.pointer (some ⟨G, 1, none⟩))).run Tryz.prog W = .ok (.agg #[.slice r.p.vo r.p.vn r.p.vc, .slice r.p.co r.p.cn r.p.cc]) W) (by kernel_rfl) (HSt.out _ rfl) (fun hHeld => ?_)
 refine wTk 0 ⟨some 3, .fieldAddr 80 (.tmp 1) 0, 0, "records.go:65", #[], none⟩ rfl ?_
 refine wTk 1 ⟨some 4, .load 9 (.tmp 3), 9, "records.go:65", #[⟨0, .data⟩], none⟩ rfl ?_
 refine wTk 2 ⟨some 5, .fieldAddr 80 (.tmp 1) 1, 0, "records.go:65", #[], none⟩ rfl ?_
 refine wTk 3 ⟨some 6, .load 26 (.tmp 5), 26, "records.go:65", #[⟨2, .data⟩], none⟩ rfl ?_
 refine wpAnyH_ready (rs := [4]) (by kernel_rfl) (by simp) (.cons rfl (fun K hK => ?_) .nil)
 go_simp
 go_wp2_with fail
 refine (pastNorm_any r.p _ (HS.out.below (below_drew1 wk))).mono ?_
 rintro x w3 ⟨c, rfl, Sc, Nc, b3, Cc⟩
 have b03 : Below wk.heap.size wk w3 := (below_drew1 wk).trans b3
 have z3 : w3.heap[G]? = wk.heap[G]? := b03.block G HXA.out.lt
 refine hK.out _ _ (HSt.out _ z3) (fun hHeld => ?_)
 clear hK K
 have X3 : ReBox w3 (G + 1) re0 := HXB.out.below b03
 have t3 := run_stRe (m' := mkR ⟨r.s, c⟩) X3
 have X4 : ReBox (w3.setRow (G + 1) (ReC (mkR ⟨r.s, c⟩))) (G + 1) (mkR ⟨r.s, c⟩) := setRow_heap _ _ _ _ _ _ X3
 have z4 : (w3.setRow (G + 1) (ReC (mkR ⟨r.s, c⟩))).heap[G]? = wk.heap[G]? := (setRow_other _ _ _ _ (by omega)).trans z3
 have hlt : G + 1 < wk.heap.size := HXB.out.lt
 have S4 : PSrc (w3.setRow (G + 1) (ReC (mkR ⟨r.s, c⟩))) c := psrc_keep (g := some (G + 1)) Sc (fun k e => by obtain rfl := Option.some.inj e; exact PFar.new Nc hlt) (fun q _ hq => setRow_other _ _ _ _ (fun e => hq (by rw [e])))
 have HE : Hid (CpA w (w3.setRow (G + 1) (ReC (mkR ⟨r.s, c⟩))) (.returned (ReV (mkR ⟨r.s, c⟩))) r) := ⟨⟨r.s, c⟩, rfl, rfl, ⟨S4, HZ.out⟩, Nc.mono (by have := HBK.out.size; exact this), below_setRow (HBK.out.trans (b03.mono HBK.out.size)) (by omega), Cc⟩
 have HX4 := hide X4
 clear Sc Nc b3 b03 Cc X3 X4 S4 hlt
 refine wTk 5 ⟨some 8, .build 80 #[(0, .tmp 4), (1, .tmp 7)], 80, "records.go:65", #[⟨1, .data⟩, ⟨4, .data⟩], none⟩ rfl ?_
 refine wpAnyH_ready (rs := [6]) (by kernel_rfl) (by simp) (.cons rfl (fun K hK => ?_) .nil)
 go_simp
 refine hK.out _ _ (HSt.out _ z4) (fun hHeld => ?_)
 clear hK K
 refine wpAnyH_done (by kernel_rfl) ?_ _
 clear hHeld
 clear t3 z3 z4
 go_wp2_with fail
 refine bodyPost_ret (res1Re rfl rfl HX4.out) rfl ?_
 exact HE.out
def SoA (w w' : World) (x : Ending) (r : Rc) : Prop := ∃ (h : Hs) (c : Rc), x = .returned (.tuple #[HsV h, .int .i64 0]) /\ RcS w' h.o 1 h.c [c] /\ h.n = 1 /\ c.s = r.s /\ Below w.heap.size w w' /\ CanonOf (runsAt r.p.P) c.p.P
def SoI (w W : World) (k : Nat) (x : Hs) (r : Rc) : Prop := ∃ C, OwnRc w.heap.size w W x C /\ ((k = 0 /\ C = [] /\ x.n = 0) ∨ (1 <= k /\ x.n = 1 /\ ∃ c, C = [c] /\ c.s = r.s /\ CanonOf (runsAt r.p.P) c.p.P))
end
end Go.Proofs.YtaphmhbmhcahaaaGreat
