/- OBs ONr LRChk LSome LOwn LOwn2 -/
import Derived.Test.YtaphmhbmhcahaaaGreatSe19
import Derived.Deep.CutRange
import Derived.Test.YtaphmhbmhcahaaaGreatSe11
import Derived.Lib.MinMax
import Derived.Test.YtaphmhbmhcahaaaGreatSe17
import Derived.Lib.OthersKept
import Derived.Maps.AppendAt
namespace Go.Proofs.YtaphmhbmhcahaaaGreat
section
open Go.RowKit
attribute [local go_sem ↓] ldS_eq stS_eq ldD_eq stD_eq
attribute [local go_sem] zero_SC cells_SV SC_size
variable {w w' w2 W W' : World} {g : Nat}

def FirstAt (L : List Sn) (d : Rn) (n i : Nat) : Prop := i <= n /\ (∀ j, j < i -> nrC (L.getD j sn0) d < 0) /\ (i < n -> 0 <= nrC (L.getD i sn0) d)
def BsA (w w' : World) (e : Ending) (L : List Sn) (d : Rn) (n : Nat) : Prop := ∃ (i : Nat) (b : Bool), e = .returned (.tuple #[.int .i64 (i : Int), .bool b]) /\ FirstAt L d n i /\ Below w.heap.size w w'
end
section
open Go.RowKit
attribute [local go_sem ↓] ldP_eq stP_eq ldD_eq stD_eq
attribute [local go_sem] cells_PV PC_size
variable {w w' w2 W W' : World} {g : Nat}

def NrA (w w' : World) (e : Ending) (p : Pv) (d : Rn) : Prop := ∃ (q : Pv) (i : Nat), e = .returned (PV q) /\ PSrc w' q /\ FirstAt p.P.cloud d p.cn i /\ q.P = ⟨p.P.vec, (p.P.cloud.drop i).take 1⟩ /\ Below w.heap.size w w'
end
end Go.Proofs.YtaphmhbmhcahaaaGreat
namespace Go.Proofs.YtaphmhbmhcahaaaGreat.K
section
open Go.RowKit
attribute [local go_sem ↓] ld28_eq st28_eq
attribute [local go_sem] zero_EC cells_EV
def DC (e : En) : Array Value := #[.int .i64 e.rep, .int .i64 e.num]
def ld26 (v : Value) : Sem Value := Instr.loadAt 43 v
theorem ld26_eq (v : Value) : Instr.loadAt 43 v = ld26 v := rfl
attribute [local go_sem ↓] ld26_eq
theorem size26 : (Tryz.prog.info? 43).map (·.size) = some 2 := by kernel_rfl
theorem run_ld26 {w : World} {p : Addr} {e : En} (A : EnAt w p e) : (ld26 (.pointer (some p))).run Tryz.prog w = .ok (.agg (DC e)) w := by
 have hl := run_loadCells_list (P := Tryz.prog) (w := w) p (DC e).toList (fun j v hv => by
  match j, hv with
  | 0, hv => cases hv; rw [add_zero]; exact A.c0
  | 1, hv => cases hv; exact A.c1
  | j + 2, hv => simp [DC] at hv)
 unfold ld26
 simp only [Instr.loadAt, Instr.sureAddr, Sem.run_bind, Sem.run_pure, Result.andThen]
 cases hq : Tryz.prog.info? 43 with
 | none => have := size26; simp [hq] at this
 | some x =>
  have hs : x.size = 2 := by have := size26; simpa [hq] using this
  have hagg : (isAgg 43).run Tryz.prog w = .ok true w := by
   unfold isAgg
   rw [Sem.run_bind, run_underlying Tryz.underlying43 w]
   rfl
  have e4 : (DC e).toList.length = 2 := rfl
  rw [e4] at hl
  simp [loadVar, Sem.run_bind, hagg, sizeOf, typeInfo, hq, hs, hl]

end
section
open Go.RowKit

abbrev bA : ByteArray := ⟨#[65]⟩
abbrev bB : ByteArray := ⟨#[66]⟩
def someL : List En := [⟨0, 3, bA, 5⟩, ⟨1, 1, bB, 2⟩, ⟨1, 4, bA, 1⟩]
def GivesE (w w' : World) (e : Ending) (L : List En) : Prop := ∃ ao n c, e = .returned (.slice ao n c) /\ ESrc w' ao n c L /\ Below w.heap.size w w' /\ ∀ ad, ao = some ad -> w.heap.size <= ad.block
end
section
open Go.RowKit

def ecs (L : List En) : List Value := (L.map (fun e => (EC e).toList)).flatten
theorem ecs_append (L R : List En) : ecs (L ++ R) = ecs L ++ ecs R := by simp [ecs]
theorem ecs_one (e : En) : ecs [e] = (EC e).toList := by simp [ecs]
theorem ecs_length (L : List En) : (ecs L).length = L.length * 4 := by
 induction L with
 | nil => rfl
 | cons a L ih => have : ecs (a :: L) = (EC a).toList ++ ecs L := rfl; rw [this, List.length_append, ih]; simp [EC]; omega
theorem ecs_at (L : List En) (t j : Nat) (ht : t < L.length) (hj : j < 4) : (ecs L)[t * 4 + j]? = (EC (L.getD t en0)).toList[j]? := by
 induction L generalizing t with
 | nil => simp at ht
 | cons a L ih =>
  have e : ecs (a :: L) = (EC a).toList ++ ecs L := rfl
  cases t with
  | zero => rw [e, List.getElem?_append_left (by simp [EC]; omega)]; simp [List.getD]
  | succ t =>
   rw [e, List.getElem?_append_right (by simp [EC]; omega)]
   have h := ih t (by simpa using ht)
   have e4 : (t + 1) * 4 + j - (EC a).toList.length = t * 4 + j := by simp [EC]; omega
   rw [e4, h]; simp [List.getD]
theorem info28 : (Tryz.prog.info? 66).map (fun i => (i.zero, i.size, i.bytes)) = some (some (.agg #[.int .i64 0, .int .i64 0, .string ⟨#[]⟩, .int .i64 0]), 4, 40) := by kernel_rfl

structure OwnE (B0 B : Nat) (w w' : World) (ao : Option Addr) (cap : Nat) (acc : List En) : Prop where
 own : w'.ownsRow B 66 4 (.slice ao acc.length cap) acc.length (ecs acc)
 below : Below B0 w w'
 hB : B <= w'.heap.size
 hB0 : B0 <= B
theorem OwnE.nil {B0 B : Nat} {w w' : World} (hb : Below B0 w w') (hB : B <= w'.heap.size) (h0 : B0 <= B) : OwnE B0 B w w' none 0 [] :=
 ⟨World.ownsRow_nil _ _ _ _, hb, hB, h0⟩
theorem OwnE.append {B0 B : Nat} {w w' : World} {ao : Option Addr} {cap : Nat} {acc : List En} (O : OwnE B0 B w w' ao cap acc) (e : En) (C : Array Value) (hC : C = EC e) (hlen : acc.length < 3518437208883)
  {ops : Array Oper} {rest : List Oper} {o : Oper} {a : Act} {Q : Exit -> Act -> World -> Prop} (hgd : o.guard = none) (s x : Operand) (ho : o.op = .call { callee := .builtin .append, args := #[s, x], argTypes := #[22, 22] })
  (n : Nat) (hn : acc.length = n) (hs : a.eval s = .slice ao n cap) (hx : a.eval x = .slice (some ⟨w'.heap.size, 0, none⟩) 1 1)
  (hK : ∀ (g cap2 : Nat) (w2 : World), OwnE B0 B w w2 (some ⟨g, 0, none⟩) cap2 (acc ++ [e]) -> (∀ k, k < B -> w2.heap[k]? = w'.heap[k]?) -> wpList Tryz.prog ops Q rest (a.put o.dst (.slice (some ⟨g, 0, none⟩) (n + 1) cap2)) w2) :
  wpList Tryz.prog ops Q (o :: rest) a (w'.alloc (.cells C 66)) := by
 subst hn hC
 obtain ⟨i0, hi, hz0, hz1, hz2⟩ := info_parts info28
 have hB := O.hB
 have hB0 := O.hB0
 refine wpList_append_own _ hgd s x 22 ho B 66 i0 (.agg #[.int .i64 0, .int .i64 0, .string ⟨#[]⟩, .int .i64 0]) 4 40 Tryz.underlying22 hi hz0 hz1 hz2 rfl (by decide) _ acc.length (ecs acc) hs (O.own.alloc _) ⟨w'.heap.size, 0, none⟩ 1 1 (EC e).toList hx (by simp [EC]) ?_ ?_ (by unfold maxLen; omega) (by omega) (by simp; omega) ?_
 ·intro j u hj
  rw [Addr.add_lit, Nat.zero_add, World.cell?_alloc_new]
  simpa using hj
 ·intro u hu
  exact EC_one e u hu
 ·intro v' w2 hown hgrow _
  rcases hown.2 with ⟨h0, h00⟩ | ⟨g, cap2, cur, hv, hbg, hgg, hnc, hcm, hcsz, htake⟩
  ·omega
  ·subst hv
   have hrow : ∀ k, (Value.slice ao acc.length cap).ownBlock = some k -> B <= k := fun k hk => (O.own.lt k hk).1
   have hsz := hgrow.size
   rw [World.size_alloc] at hsz
   refine hK g cap2 w2 ⟨?_, (O.below.alloc (by omega) _).grown hgrow (by simp; omega) (fun k hk => by have := hrow k hk; omega), by omega, hB0⟩ (fun k hk => ?_)
   ·rw [List.length_append, ecs_append, ecs_one]; exact hown
   ·rw [hgrow.block k (by simp; omega) (fun e => by have := hrow k e.symm; omega)]
    exact Below.heap_alloc _ _ _ (by omega)
theorem OwnE.later {B0 B : Nat} {w w' w2 : World} {ao : Option Addr} {cap : Nat} {acc : List En} (O : OwnE B0 B w w' ao cap acc) (hb : Below w'.heap.size w' w2) : OwnE B0 B w w2 ao cap acc := by
 refine ⟨⟨O.own.1, ?_⟩, O.below.trans (hb.mono (Nat.le_trans O.hB0 O.hB)), Nat.le_trans O.hB hb.size, O.hB0⟩
 rcases O.own.2 with h | ⟨g, cap2, cur, hv, hbg, hgg, r⟩
 ·exact Or.inl h
 ·exact Or.inr ⟨g, cap2, cur, hv, hbg, (hb.block g (Array.getElem?_eq_some_iff.1 hgg).1).trans hgg, r⟩
theorem OwnE.src {B0 B : Nat} {w w' : World} {ao : Option Addr} {cap : Nat} {acc : List En} (O : OwnE B0 B w w' ao cap acc) (hs : ∀ e ∈ acc, e.sku.size <= maxLen) (hl : acc.length <= 3518437208883) : ESrc w' ao acc.length cap acc /\ ∀ ad, ao = some ad -> B <= ad.block := by
 rcases O.own.2 with ⟨h0, h00⟩ | ⟨g, cap2, cur, hv, hbg, hgg, hnc, hcm, hcsz, htake⟩
 ·simp only [Value.slice.injEq] at h0
  obtain ⟨rfl, e0, rfl⟩ := h0
  exact ⟨⟨rfl, fun _ => ⟨h00, rfl⟩, fun ad h => (by cases h), hs, hl⟩, fun ad h => (by cases h)⟩
 ·simp only [Value.slice.injEq, true_and] at hv
  obtain ⟨rfl, rfl⟩ := hv
  have cell : ∀ t j, t < acc.length -> j < 4 -> w'.cell? ⟨g, t * 4 + j, none⟩ = (EC (acc.getD t en0)).toList[j]? := fun t j ht hj => by
   rw [O.own.cellAt (t * 4 + j) (by omega), ecs_at _ t j ht hj]
  refine ⟨⟨rfl, fun h => (by cases h), fun ad h t ht => ?_, hs, hl⟩, fun ad h => by obtain rfl := Option.some.inj h; exact hbg⟩
  obtain rfl := Option.some.inj h
  refine ⟨?_, ?_, ?_, ?_⟩
  ·rw [Addr.add_lit, Nat.zero_add]; exact cell t 0 ht (by omega)
  ·rw [Addr.add_lit, Addr.add_lit, Nat.zero_add]; exact cell t 1 ht (by omega)
  ·rw [Addr.add_lit, Addr.add_lit, Nat.zero_add]; exact cell t 2 ht (by omega)
  ·rw [Addr.add_lit, Addr.add_lit, Nat.zero_add]; exact cell t 3 ht (by omega)
end
section
open Go.RowKit

theorem fold_EC (e : En) : Array.foldl (fun cs x => cs.setIfInBounds x.snd x.fst) (EC en0) (EC e).zipIdx 0 4 = EC e := rfl
theorem take_snoc (L : List En) (k : Nat) (h : k < L.length) : L.take (k + 1) = L.take k ++ [L.getD k en0] := by
 rw [List.take_succ_eq_append_getElem h]; simp [List.getD, h]
end
end Go.Proofs.YtaphmhbmhcahaaaGreat.K
