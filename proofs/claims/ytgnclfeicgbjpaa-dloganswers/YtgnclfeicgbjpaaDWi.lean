/- Walk's iterator. -/
import Derived.RangeFuncNested
import Derived.RangeFuncBound
import Derived.RangeFuncCalls
import Derived.RangeFuncLeaves
import Derived.RangeFuncBox
import Derived.Shelf.Abstract
import Derived.Shelf.RegionOpen
import Derived.WalkKit
import Derived.OwnWalkIn
import Derived.TacticsInMore
import Derived.LoopNIn
import Derived.LoopIn
import Derived.Maps.AppendAt
import Derived.Test.YtgnclfeicgbjpaaDFr
namespace Go.Proofs.Ytgnclfeicgbjpaa
open Go.RowKit Go.Shelf
attribute [local go_sem] Oper.semAt_some

/-- what lies from p to q stays -/
def Mid (p q : Nat) (W W' : World) : Prop := ∀ k, p ≤ k → k < q → W'.heap[k]? = W.heap[k]?
theorem Mid.refl (p q : Nat) (W : World) : Mid p q W W := fun _ _ _ => rfl
theorem Mid.trans {p q : Nat} {A B C : World} (h : Mid p q A B) (k : Mid p q B C) : Mid p q A C := fun j h1 h2 => (k j h1 h2).trans (h j h1 h2)
theorem Mid.cell {p q : Nat} {A B : World} (h : Mid p q A B) {a : Addr} (h1 : p ≤ a.block) (h2 : a.block < q) : B.cell? a = A.cell? a := World.cell?_of_block (h a.block h1 h2)
theorem mid_b {p q : Nat} {w : World} (hq : q ≤ w.heap.size) (W : World) (l : Nat) (o o' : Obj) (hl : w.heap.size ≤ l) (_ : W.heap[l]? = some o) (_ : o.isCells = false) (_ : o.isWalk = false) : Mid p q W (W.putObj l o') :=
  fun k _ h2 => World.putObj_heap_other (fun e => by omega)
/-- what has come when k rounds are over -/
def upto {α : Type} (f : Nat → α) (k : Nat) : List α := (List.range k).map f
theorem upto_succ {α : Type} (f : Nat → α) (k : Nat) : upto f (k + 1) = upto f k ++ [f k] := by simp [upto, List.range_succ]
theorem upto_length {α : Type} (f : Nat → α) (k : Nat) : (upto f k).length = k := by simp [upto]
/-- the pairs of a walk -/
def wkp (f0 : Int) (zs : List Int) (j : Nat) : Int × Int := (f0 + (j : Int), zs[j]?.getD 0)
set_option maxRecDepth 100000 in
set_option maxHeartbeats 2000000 in
theorem wk1_in (F : Fence) (n : Nat) (h28 : F.fn 28) (hro : F.round = none) (hn : 1 ≤ n) (l Bi Bf p q b off len cap : Nat) (f0 : Int) (zs : List Int) (hlen : len ≤ 1000) (hf0 : 0 ≤ f0) (hf1 : f0 ≤ 9000000000000000000) (hpb : p ≤ b) (hbq : b < q) (hpf : p ≤ Bf) (hfq : Bf < q) (J Jx : List (Int × Int) → World → Prop)
    (hY : ∀ pre x W, J pre W → pre.length < len → YieldAt F (n - 1) Try.prog l #[.int .i64 x.1, .int .i64 x.2] W fun e W' =>
      (e = .returned (.bool true) ∧ J (pre ++ [x]) W' ∧ Mid p q W W') ∨ (e = .returned (.bool false) ∧ Jx (pre ++ [x]) W'))
    (W : World) (hBi : W.cell? ⟨Bi, 0, none⟩ = some (.slice (some ⟨b, off, none⟩) len cap)) (hBf : W.cell? ⟨Bf, 0, none⟩ = some (.int .i64 f0)) (hc : ∀ j, j < len → W.cell? ⟨b, off + j, none⟩ = some (.int .i64 (zs[j]?.getD 0))) (h0 : J [] W) :
    CallsIn F n Try.prog 28 #[.func (.yield l) #[] #[], .pointer (some ⟨Bi, 0, none⟩), .pointer (some ⟨Bf, 0, none⟩)] W fun e W' => (∃ v, e = .returned v) ∧
      ((∃ ys, ys = upto (wkp f0 zs) len ∧ J ys W') ∨ (∃ pre, (∃ k, k ≤ len ∧ pre = upto (wkp f0 zs) k) ∧ Jx pre W')) := by
  refine callsIn_of_wp Try.func28 rfl h28 ?_ hro
  simp only [Try.ntmps28, List.size_toArray, List.length_cons, List.length_nil, Nat.reduceAdd, Nat.reduceSub, Array.replicate_succ, Array.replicate_zero, List.push_toArray, List.append_toArray, List.nil_append, List.cons_append]
  gi_wp2
  gi_loopw [8] (fun i wr => ∃ k : Nat, k ≤ len ∧ i = .int .i64 k ∧ J (upto (wkp f0 zs) k) wr ∧ Mid p q W wr) (fun i _ => len - (intOf i).toNat)
  case atStart => exact ⟨0, Nat.zero_le _, rfl, h0, Mid.refl _ _ _⟩
  case round =>
    obtain ⟨k, hk, rfl, hJs, hnx⟩ := hrel
    have hfx : wr.cell? ⟨Bf, 0, none⟩ = some (.int .i64 f0) := (hnx.cell (a := ⟨Bf, 0, none⟩) hpf hfq).trans hBf
    by_cases hlt : k < len
    · obtain ⟨fn, tmps, assign, body, hy, hR⟩ := hY _ (wkp f0 zs k) wr hJs (by rw [upto_length]; exact hlt)
      dsimp only [wkp] at hy
      have hcx' : wr.cell? ⟨b, off + k, none⟩ = some (.int .i64 (zs[k]?.getD 0)) := (hnx.cell (a := ⟨b, off + k, none⟩) hpb hbq).trans (hc k hlt)
      have hw : wrap64 (f0 + (k : Int)) = f0 + (k : Int) := w64 (by omega) (by omega)
      gi_wp2
      refine hR.mono ?_
      rintro e W3 (⟨rfl, hJ3, hk3⟩ | ⟨rfl, hJx3⟩)
      · gi_wp2
        go_roundw
        case rel => exact ⟨k + 1, by omega, by simp, by rw [upto_succ]; exact hJ3, hnx.trans hk3⟩
        case measure => simp [intOf]; omega
      · gi_wp2
        refine bodyPost_ret (results_none rfl _ _ _) rfl ?_
        exact ⟨⟨_, rfl⟩, .inr ⟨_, ⟨k + 1, by omega, (upto_succ _ _).symm⟩, hJx3⟩⟩
    · obtain rfl : k = len := by omega
      gi_wp2
      go_end0
      exact ⟨⟨_, rfl⟩, .inl ⟨_, rfl, hJs⟩⟩
set_option maxRecDepth 100000 in
set_option maxHeartbeats 1000000 in
theorem wk1_none_in (F : Fence) (n : Nat) (h28 : F.fn 28) (hro : F.round = none) (l Bi : Nat) (bf : Value) (a : Option Addr) (c : Nat) (J : List (Int × Int) → World → Prop) (W : World) (hBi : W.cell? ⟨Bi, 0, none⟩ = some (.slice a 0 c)) (h0 : J [] W) :
    CallsIn F n Try.prog 28 #[.func (.yield l) #[] #[], .pointer (some ⟨Bi, 0, none⟩), bf] W fun e W' => (∃ v, e = .returned v) ∧ J [] W' := by
  refine callsIn_of_wp Try.func28 rfl h28 ?_ hro
  simp only [Try.ntmps28, List.size_toArray, List.length_cons, List.length_nil, Nat.reduceAdd, Nat.reduceSub, Array.replicate_succ, Array.replicate_zero, List.push_toArray, List.append_toArray, List.nil_append, List.cons_append]
  gi_wp2
  gi_loopw [8] (fun i wr => i = .int .i64 0 ∧ J [] wr) (fun _ _ => 0)
  case atStart => exact ⟨rfl, h0⟩
  case round =>
    obtain ⟨rfl, hJs⟩ := hrel
    gi_wp2
    go_end0
    exact ⟨⟨_, rfl⟩, hJs⟩
/-- the items of a walk lie between p and q -/
def Its (p q : Nat) (W : World) (sv : Value) (zs : List Int) : Prop :=
  (∃ a c, sv = .slice a 0 c ∧ zs = []) ∨ ∃ b off cap, sv = .slice (some ⟨b, off, none⟩) zs.length cap ∧ p ≤ b ∧ b < q ∧ ∀ j, j < zs.length → W.cell? ⟨b, off + j, none⟩ = some (.int .i64 (zs[j]?.getD 0))
theorem walk_stops (F : Fence) (n : Nat) (h28 : F.fn 28) (hro : F.round = none) (hn : 1 ≤ n) (Bi Bf p q : Nat) (f0 : Int) (sv : Value) (zs : List Int) (hlen : zs.length ≤ 1000) (hf0 : 0 ≤ f0) (hf1 : f0 ≤ 9000000000000000000) (hpf : p ≤ Bf) (hfq : Bf < q) (hiq : Bi < q) (w : World) (hq : q ≤ w.heap.size)
    (hc : w.cell? ⟨Bi, 0, none⟩ = some sv) (hcf : w.cell? ⟨Bf, 0, none⟩ = some (.int .i64 f0)) (hI : Its p q w sv zs) :
    SeqStopsK F n Try.prog 28 #[.pointer (some ⟨Bi, 0, none⟩), .pointer (some ⟨Bf, 0, none⟩)] (fun x : Int × Int => #[Value.int .i64 x.1, Value.int .i64 x.2]) (Mid p q) (fun ys => ys = upto (wkp f0 zs) zs.length)
      (fun pre => ∃ k, k ≤ zs.length ∧ pre = upto (wkp f0 zs) k) zs.length w := fun l J Jx W hW _ _ hY h0 => by
  have hc' := (hW.cell (p := ⟨Bi, 0, none⟩) (by show Bi < _; omega)).trans hc
  have hcf' := (hW.cell (p := ⟨Bf, 0, none⟩) (by show Bf < _; omega)).trans hcf
  rcases hI with ⟨a, c, rfl, rfl⟩ | ⟨b, off, cap, rfl, hpb, hbq, hcs⟩
  · exact (wk1_none_in F n h28 hro l Bi _ a c J W hc' h0).mono fun e W' ⟨he, hj⟩ => ⟨he, .inl ⟨_, rfl, hj⟩⟩
  · exact wk1_in F n h28 hro hn l Bi Bf p q b off zs.length cap f0 zs hlen hf0 hf1 hpb hbq hpf hfq J Jx hY W hc' hcf' (fun j hj => (hW.cell (p := ⟨b, off + j, none⟩) (by show b < _; omega)).trans (hcs j hj)) h0
end Go.Proofs.Ytgnclfeicgbjpaa
