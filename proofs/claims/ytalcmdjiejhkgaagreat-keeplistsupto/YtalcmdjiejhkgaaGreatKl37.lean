/- HVc BCn BAo Lit BKe RMt -/
import Derived.Test.YtalcmdjiejhkgaaGreatKl36
import Derived.Test.YtalcmdjiejhkgaaGreatKl28
import Derived.Test.YtalcmdjiejhkgaaGreatKl07
import Derived.Test.YtalcmdjiejhkgaaGreatKl24
import Derived.Test.YtalcmdjiejhkgaaGreatKl19
import Derived.Shelf.SlIter.Nil
import Derived.Shelf.SortM.Plain
import Derived.Shelf.SortM.SortNone
import Derived.Test.YtalcmdjiejhkgaaGreatProg
import Derived.Test.YtalcmdjiejhkgaaGreatKl20
import Derived.Test.YtalcmdjiejhkgaaGreatKl06
set_option maxRecDepth 100000
set_option maxHeartbeats 8000000
namespace Go.Proofs.YtalcmdjiejhkgaaGreat
section
open Go.ChangeShapes Go.WideShapes Go.ChangeAt Go.RowKit Go.Joins
def KsT (w : World) (m : Ks) (R Q : List Rc) (A B : List K.En) : Prop := KsS w m R Q A B /\ RcT w m.ro m.rn m.rc R /\ RcT w m.qo m.qn m.qc Q
theorem viewRT {H : Type} {enc : TypeId × Value -> H} {W : World} {fuel : Nat} {v : Value} {x : DataW H × List MemPlace}
  (h : DataW.trod enc Tryz.prog W 0 (fun _ => true) true fuel 22 [v] = some x) (hw : Rows.uptoBulk x.1 <= 1048576) : ∃ (ao : Option Addr) (n cap : Nat) (L : List Rc), v = .slice ao n cap /\ RcT W ao n cap L /\ RSm L := by
 rcases DataW.trod_slice Tryz.underlying22 h with h0 | ⟨a, len, cap, elems, rest, n, _, hcs, hx, hb, hl, hm, hlen, hel, hsp, hns⟩
 ·have e : v = .slice none 0 0 := by simpa using h0.1
  exact ⟨none, 0, 0, [], e, ⟨RcS.empty _, Nat.le_refl _, fun _ => rfl⟩, Nat.zero_le _, fun r hr => by cases hr⟩
 ·subst hx
  have e : v = .slice (some a) len cap := by simpa using hcs
  simp only [Rows.uptoBulk] at hw
  have op : ∀ i (hi : i < elems.length), i < len /\ ∃ cs', (5 <= Rows.uptoBulk elems[i].1 /\ (Rows.uptoBulk elems[i].1 <= 1048576 -> ∃ r : Rc, cs' = (ReC (mkR r)).toList /\ RcOk W r /\ r.p.P.cloud.length <= 1048576)) /\ (∀ j, j < 3 -> W.cell? ((a.add (i * 3)).add j) = cs'[j]?) := by
   intro i hi
   have hi' : i < len := by omega
   have he := hel i hi'
   rw [List.getElem?_eq_getElem hi, cellsRe, Option.bind_eq_some_iff] at he
   obtain ⟨cs', hcs, hy'⟩ := he
   obtain ⟨_, -, hce⟩ := World.cells?_some hcs
   exact ⟨hi', cs', open_recordU hy', fun j hj => hce j hj⟩
  have h5 := bulk_five (elems.map (·.1)) (fun d hd => by
   obtain ⟨y, hy, rfl⟩ := List.mem_map.1 hd
   obtain ⟨i, hi, rfl⟩ := List.getElem_of_mem hy
   obtain ⟨-, _, h, -⟩ := op i hi
   exact h.1)
  simp only [List.length_map] at h5
  have key : ∀ i, i < len -> ∃ r : Rc, ReAt W (a.add (i * 3)) (mkR r) /\ RcOk W r /\ r.p.P.cloud.length <= 1048576 := by
   intro i hi
   have hi' : i < elems.length := by omega
   obtain ⟨-, cs', h, hce⟩ := op i hi'
   obtain ⟨r, rfl, hr, hl2⟩ := h.2 (by have := bulk_at (elems.map (·.1)) elems[i].1 (List.mem_map_of_mem (f := (·.1)) (List.getElem_mem hi')); omega)
   have g0 := hce 0 (by omega)
   rw [add_zero] at g0
   exact ⟨r, ⟨g0, hce 1 (by omega), hce 2 (by omega)⟩, hr, hl2⟩
  refine ⟨some a, len, cap, (List.range len).map fun i => if h : i < len then Classical.choose (key i h) else rc0, e, ⟨⟨by simp, (fun h => by cases h), fun ad h t ht => ?_, fun r hr => ?_, by omega⟩, hl, fun h => by cases h⟩, by simp; omega, fun r hr => ?_⟩
  ·obtain rfl := Option.some.inj h
   have : ((List.range len).map fun i => if h : i < len then Classical.choose (key i h) else rc0).getD t rc0 = Classical.choose (key t ht) := by simp [List.getD, ht]
   rw [this]
   exact (Classical.choose_spec (key t ht)).1
  ·simp only [List.mem_map, List.mem_range] at hr
   obtain ⟨i, hi, rfl⟩ := hr
   rw [dif_pos hi]
   exact (Classical.choose_spec (key i hi)).2.1
  ·simp only [List.mem_map, List.mem_range] at hr
   obtain ⟨i, hi, rfl⟩ := hr
   rw [dif_pos hi]
   exact (Classical.choose_spec (key i hi)).2.2
theorem open_case7r {H : Type} {enc : TypeId × Value -> H} {W : World} {fuel : Nat} {cs : List Value} {x : DataW H × List MemPlace}
  (h : DataW.trod enc Tryz.prog W 0 (fun _ => true) true fuel 29 cs = some x) (hw : Rows.uptoBulk x.1 <= 1048576) : ∃ (m : Ks) (R Q : List Rc) (A B : List K.En), cs = (KsC m).toList /\ KsT W m R Q A B := by
 obtain ⟨xs, m, _, hx, hcl, hxl, hf⟩ := DataW.trod_struct Tryz.underlying29 h
 obtain ⟨v0, v1, v2, v3, v4, v5, v6, v7, rfl⟩ := list8 (hcl.trans cellsKs)
 obtain ⟨y0, y1, y2, y3, y4, y5, rfl⟩ := list6 hxl
 have t0 := hf 0 _ rfl
 have t1 := hf 1 _ rfl
 have t2 := hf 2 _ rfl
 have t3 := hf 3 _ rfl
 have t4 := hf 4 _ rfl
 have t5 := hf 5 _ rfl
 simp [cellsP, cellsEs, cellsRs] at t0 t1 t2 t3 t4 t5
 subst hx
 simp only [Rows.uptoBulk, List.map_cons, List.map_nil, Rows.uptoBulkAll] at hw
 obtain ⟨ro, rn, rc, R, rfl, Sr, r1⟩ := viewRT t0 (by omega)
 obtain ⟨qo, qn, qc, Q, rfl, Sq, q1⟩ := viewRT t1 (by omega)
 obtain ⟨ao, an, ac, A, rfl, Sa, a1⟩ := viewEu t2 (by omega)
 obtain ⟨bo, bn, bc, B, rfl, Sb, b1⟩ := viewEu t3 (by omega)
 obtain ⟨p, ep, Sp, -⟩ := viewP t4 (by omega)
 obtain ⟨o, eo, So, -⟩ := viewP t5 (by omega)
 simp only [List.cons.injEq, and_true] at ep eo
 obtain ⟨rfl, rfl⟩ := ep
 obtain ⟨rfl, rfl⟩ := eo
 exact ⟨⟨ro, rn, rc, qo, qn, qc, ao, an, ac, bo, bn, bc, p, o⟩, R, Q, A, B, rfl, ⟨⟨Sr.src, Sq.src, Sa, Sb, Sp, So, r1, q1, a1, b1⟩, Sr, Sq⟩⟩
end
section
open Go.RowKit
theorem countP_more {D : List Rn} {p q : Rn -> Bool} {a : Rn} (ha : a ∈ D) (hp : p a = true) (hq : q a = false) (hqp : ∀ x, q x = true -> p x = true) : D.countP q + 1 <= D.countP p := by
 induction D with
 | nil => cases ha
 | cons x D ih =>
  have hm : D.countP q <= D.countP p := List.countP_mono_left (fun y _ h => hqp y h)
  rcases List.mem_cons.1 ha with rfl | h
  ·rw [List.countP_cons_of_pos hp, List.countP_cons_of_neg (by rw [hq]; decide)]
   omega
  ·have h1 := ih h
   cases hx : q x
   ·rw [List.countP_cons_of_neg (by rw [hx]; decide)]
    have h2 : D.countP p <= (x :: D).countP p := by rw [List.countP_cons]; omega
    omega
   ·rw [List.countP_cons_of_pos hx, List.countP_cons_of_pos (hqp x hx)]
    omega
theorem runs_count (D : List Rn) (r : Int) : ∀ (X : List Rn) (l : Int), 1 <= l -> form l X -> (∀ n, mem X n -> (⟨r, n⟩ : Rn) ∈ D) -> X.length <= D.countP (fun d => decide (d.lo = r) && decide (l <= d.hi))
 | [], _, _, _, _ => Nat.zero_le _
 | x :: X, l, hl, hf, hD => by
  have h1 := hf.1
  have h2 := hf.2.1
  have h3 := runs_count D r X (x.hi + 2) (by omega) hf.2.2.2 (fun n hn => hD n ((mem_cons _ _ _).2 (.inr hn)))
  have h4 : (⟨r, x.lo⟩ : Rn) ∈ D := hD x.lo ((mem_cons _ _ _).2 (.inl ⟨by omega, by have := hf.2.2.1; omega, Int.le_refl _, h2⟩))
  have h5 := countP_more (p := fun d => decide (d.lo = r) && decide (l <= d.hi)) (q := fun d => decide (d.lo = r) && decide (x.hi + 2 <= d.hi)) h4 (by simp; omega) (by simp; omega) (fun y hy => by simp at hy ⊢; omega)
  simp only [List.length_cons]
  omega
theorem cloud_count {N : Nat -> List Rn} (D : List Rn) : ∀ k : Nat, (∀ r, r < k -> form 1 (N r) /\ ∀ n, mem (N r) n -> (⟨(r : Int), n⟩ : Rn) ∈ D) -> (cloudN N k).length <= D.countP (fun d => decide (0 <= d.lo) && decide (d.lo < (k : Int)))
 | 0, _ => Nat.zero_le _
 | k + 1, h => by
  have h1 := cloud_count D k (fun r hr => h r (by omega))
  have h2 := restOf_len (N k)
  have h3 := runs_count D k (N k) 1 (Int.le_refl _) (h k (by omega)).1 (h k (by omega)).2
  have h4 : D.countP (fun d => decide (0 <= d.lo) && decide (d.lo < (k : Int))) + D.countP (fun d => decide (d.lo = (k : Int)) && decide (1 <= d.hi)) <= D.countP (fun d => decide (0 <= d.lo) && decide (d.lo < ((k + 1 : Nat) : Int))) := by
   clear h h1 h2 h3
   induction D with
   | nil => simp
   | cons x D ih =>
    rw [List.countP_cons, List.countP_cons, List.countP_cons]
    have h5 : (if (decide (0 <= x.lo) && decide (x.lo < (k : Int))) = true then 1 else 0) + (if (decide (x.lo = (k : Int)) && decide (1 <= x.hi)) = true then 1 else 0) <= (if (decide (0 <= x.lo) && decide (x.lo < ((k + 1 : Nat) : Int))) = true then 1 else 0) := by
     simp only [Bool.and_eq_true, decide_eq_true_eq]
     split <;> split <;> split <;> omega
    omega
  rw [cloudN, List.length_append, tag_length]
  omega
theorem canon_count {G : Nat -> List Rn} {P : Pst} (h : CanonOf G P) (D : List Rn) (hD : ∀ r : Nat, r < 16 -> ∀ n, mem (G r) n -> (⟨(r : Int), n⟩ : Rn) ∈ D) : P.cloud.length <= D.length := by
 obtain ⟨N, hN, rfl⟩ := h
 exact Nat.le_trans (cloud_count D 16 (fun r hr => ⟨(hN r hr).1, fun n hn => hD r hr n (((hN r hr).2 n).1 hn)⟩)) List.countP_le_length
end
section
open Go.RowKit
def freeB (R : List Rc) (e : K.En) : Bool := !R.any (fun r => covB r e)
def ApA (w w' : World) (x : Ending) (L : List K.En) (R : List Rc) (n : Nat) : Prop := (K.chk L = 0 /\ OkR R n /\ K.GivesEE w w' x (L.filter (freeB R)) 0) ∨ (¬ (K.chk L = 0 /\ OkR R n) /\ K.GivesEE w w' x [] 1)
end
end Go.Proofs.YtalcmdjiejhkgaaGreat
namespace Go.Proofs
open Go.Shelf
def Tryz.keysM_ren : Go.Shelf.Ren := ⟨fun | 7 => 31 | 10 => 65 | n => n, fun | 23 => 58 | 26 => 9 | 3 => 59 | 28 => 63 | 0 => 0 | 27 => 62 | 33 => 74 | 4 => 4 | n => n, fun | n => n⟩
theorem Tryz.keysM : Go.Proofs.SlLaysZ.n7 Tryz.prog Tryz.keysM_ren := {
 mixed := by kernel_rfl
 f7 := ⟨Tryz.f31.name, by decide, Tryz.func31.trans (congrArg some (by kernel_rfl))⟩
 f10 := ⟨Tryz.f65.name, by decide, Tryz.func65.trans (congrArg some (by kernel_rfl))⟩
 t0 := Tryz.underlying0
 a0 := Tryz.isAgg0
 z0 := Tryz.sizeOf0
 v0 := Tryz.zeroValue0
 t4 := Tryz.underlying4
 a4 := Tryz.isAgg4
 z4 := Tryz.sizeOf4
 v4 := Tryz.zeroValue4
 t23 := Tryz.underlying58
 a23 := Tryz.isAgg58
 z23 := Tryz.sizeOf58
 v23 := Tryz.zeroValue58
 t26 := Tryz.underlying9
 a26 := Tryz.isAgg9
 z26 := Tryz.sizeOf9
 v26 := Tryz.zeroValue9
 t27 := Tryz.underlying62
 a27 := Tryz.isAgg62
 z27 := Tryz.sizeOf62
 v27 := Tryz.zeroValue62
 t28 := Tryz.underlying63
 a28 := Tryz.isAgg63
 z28 := Tryz.sizeOf63
 v28 := Tryz.zeroValue63
 t33 := Tryz.underlying74
 a33 := Tryz.isAgg74
 z33 := Tryz.sizeOf74
 v33 := Tryz.zeroValue74 }
def Tryz.sortedM_ren : Go.Shelf.Ren := ⟨fun | 6 => 30 | 8 => 63 | 9 => 64 | 11 => 101 | 13 => 80 | 12 => 102 | 23 => 123 | 24 => 124 | 14 => 132 | 15 => 133 | 16 => 134 | 17 => 135 | 18 => 136 | 19 => 137 | 20 => 138 | 21 => 139 | 22 => 140 | 25 => 166 | 26 => 150 | 27 => 151 | 28 => 167 | 29 => 168 | 30 => 169 | 31 => 179 | n => n, fun | 26 => 9 | 28 => 63 | 24 => 60 | 0 => 0 | 3 => 3 | 37 => 115 | 48 => 152 | 50 => 154 | 4 => 4 | 40 => 146 | 39 => 145 | 45 => 126 | 5 => 5 | 9 => 9 | 51 => 171 | 55 => 175 | 57 => 189 | 58 => 140 | 33 => 74 | n => n, fun | n => n⟩
theorem Tryz.sortedM : Go.Proofs.SlLaysZ.n6 Tryz.prog Tryz.sortedM_ren := {
 mixed := by kernel_rfl
 f6 := ⟨Tryz.f30.name, by decide, Tryz.func30.trans (congrArg some (by kernel_rfl))⟩
 f8 := ⟨Tryz.f63.name, by decide, Tryz.func63.trans (congrArg some (by kernel_rfl))⟩
 f11 := ⟨Tryz.f101.name, by decide, Tryz.func101.trans (congrArg some (by kernel_rfl))⟩
 t0 := Tryz.underlying0
 a0 := Tryz.isAgg0
 z0 := Tryz.sizeOf0
 v0 := Tryz.zeroValue0
 t24 := Tryz.underlying60
 a24 := Tryz.isAgg60
 z24 := Tryz.sizeOf60
 v24 := Tryz.zeroValue60
 t26 := Tryz.underlying9
 a26 := Tryz.isAgg9
 z26 := Tryz.sizeOf9
 v26 := Tryz.zeroValue9
 t28 := Tryz.underlying63
 a28 := Tryz.isAgg63
 z28 := Tryz.sizeOf63
 v28 := Tryz.zeroValue63
 i26 := by kernel_rfl }
def Tryz.sortM_ren : Go.Shelf.Ren := ⟨fun | 6 => 64 | 8 => 80 | 9 => 102 | 19 => 123 | 20 => 124 | 21 => 132 | 22 => 133 | 23 => 134 | 24 => 135 | 25 => 136 | 26 => 137 | 27 => 138 | 28 => 139 | 29 => 140 | 36 => 166 | 31 => 150 | 32 => 151 | 37 => 167 | 38 => 168 | 39 => 169 | 41 => 179 | n => n, fun | 27 => 60 | 29 => 9 | 3 => 3 | 32 => 115 | 26 => 60 | 0 => 0 | 44 => 152 | 46 => 154 | 4 => 4 | 36 => 146 | 35 => 145 | 41 => 126 | 5 => 5 | 9 => 9 | 53 => 171 | 57 => 175 | 63 => 189 | 64 => 140 | n => n, fun | n => n⟩
theorem Tryz.sortM : Go.Proofs.SlLaysM.n6 Tryz.prog Tryz.sortM_ren := {
 mixed := by kernel_rfl
 f6 := ⟨Tryz.f64.name, by decide, Tryz.func64.trans (congrArg some (by kernel_rfl))⟩
 f8 := Tryz.func80.trans (congrArg some (by kernel_rfl))
 f9 := ⟨Tryz.f102.name, by decide, Tryz.func102.trans (congrArg some (by kernel_rfl))⟩
 f19 := Tryz.func123.trans (congrArg some (by kernel_rfl))
 f20 := Tryz.func124.trans (congrArg some (by kernel_rfl))
 f21 := ⟨Tryz.f132.name, by decide, Tryz.func132.trans (congrArg some (by kernel_rfl))⟩
 f22 := ⟨Tryz.f133.name, by decide, Tryz.func133.trans (congrArg some (by kernel_rfl))⟩
 f23 := ⟨Tryz.f134.name, by decide, Tryz.func134.trans (congrArg some (by kernel_rfl))⟩
 f24 := ⟨Tryz.f135.name, by decide, Tryz.func135.trans (congrArg some (by kernel_rfl))⟩
 f25 := ⟨Tryz.f136.name, by decide, Tryz.func136.trans (congrArg some (by kernel_rfl))⟩
 f26 := ⟨Tryz.f137.name, by decide, Tryz.func137.trans (congrArg some (by kernel_rfl))⟩
 f27 := ⟨Tryz.f138.name, by decide, Tryz.func138.trans (congrArg some (by kernel_rfl))⟩
 f28 := ⟨Tryz.f139.name, by decide, Tryz.func139.trans (congrArg some (by kernel_rfl))⟩
 f29 := ⟨Tryz.f140.name, by decide, Tryz.func140.trans (congrArg some (by kernel_rfl))⟩
 f31 := Tryz.func150.trans (congrArg some (by kernel_rfl))
 f32 := Tryz.func151.trans (congrArg some (by kernel_rfl))
 f36 := ⟨Tryz.f166.name, by decide, Tryz.func166.trans (congrArg some (by kernel_rfl))⟩
 f37 := ⟨Tryz.f167.name, by decide, Tryz.func167.trans (congrArg some (by kernel_rfl))⟩
 f38 := ⟨Tryz.f168.name, by decide, Tryz.func168.trans (congrArg some (by kernel_rfl))⟩
 f39 := ⟨Tryz.f169.name, by decide, Tryz.func169.trans (congrArg some (by kernel_rfl))⟩
 f41 := ⟨Tryz.f179.name, by decide, Tryz.func179.trans (congrArg some (by kernel_rfl))⟩
 t0 := Tryz.underlying0
 a0 := Tryz.isAgg0
 z0 := Tryz.sizeOf0
 v0 := Tryz.zeroValue0
 t3 := Tryz.underlying3
 a3 := Tryz.isAgg3
 z3 := Tryz.sizeOf3
 v3 := Tryz.zeroValue3
 t4 := Tryz.underlying4
 a4 := Tryz.isAgg4
 z4 := Tryz.sizeOf4
 v4 := Tryz.zeroValue4
 t5 := Tryz.underlying5
 a5 := Tryz.isAgg5
 z5 := Tryz.sizeOf5
 v5 := Tryz.zeroValue5
 t9 := Tryz.underlying9
 a9 := Tryz.isAgg9
 z9 := Tryz.sizeOf9
 v9 := Tryz.zeroValue9
 t26 := Tryz.underlying60
 a26 := Tryz.isAgg60
 z26 := Tryz.sizeOf60
 v26 := Tryz.zeroValue60
 t27 := Tryz.underlying60
 a27 := Tryz.isAgg60
 z27 := Tryz.sizeOf60
 v27 := Tryz.zeroValue60
 t29 := Tryz.underlying9
 a29 := Tryz.isAgg9
 z29 := Tryz.sizeOf9
 v29 := Tryz.zeroValue9
 t32 := Tryz.underlying115
 a32 := Tryz.isAgg115
 z32 := Tryz.sizeOf115
 v32 := Tryz.zeroValue115
 t35 := Tryz.underlying145
 a35 := Tryz.isAgg145
 z35 := Tryz.sizeOf145
 v35 := Tryz.zeroValue145
 t36 := Tryz.underlying146
 a36 := Tryz.isAgg146
 z36 := Tryz.sizeOf146
 v36 := Tryz.zeroValue146
 t41 := Tryz.underlying126
 a41 := Tryz.isAgg126
 z41 := Tryz.sizeOf126
 v41 := Tryz.zeroValue126
 t44 := Tryz.underlying152
 a44 := Tryz.isAgg152
 z44 := Tryz.sizeOf152
 v44 := Tryz.zeroValue152
 t46 := Tryz.underlying154
 a46 := Tryz.isAgg154
 z46 := Tryz.sizeOf154
 v46 := Tryz.zeroValue154
 t53 := Tryz.underlying171
 a53 := Tryz.isAgg171
 z53 := Tryz.sizeOf171
 v53 := Tryz.zeroValue171
 t57 := Tryz.underlying175
 a57 := Tryz.isAgg175
 z57 := Tryz.sizeOf175
 v57 := Tryz.zeroValue175
 t63 := Tryz.underlying189
 a63 := Tryz.isAgg189
 z63 := Tryz.sizeOf189
 v63 := Tryz.zeroValue189
 t64 := Tryz.underlying140
 a64 := Tryz.isAgg140
 z64 := Tryz.sizeOf140
 v64 := Tryz.zeroValue140 }
end Go.Proofs
namespace Go.Proofs.YtalcmdjiejhkgaaGreat
section
open Go.RowKit Go.Maps Go.Sort Go.Shelf

theorem sorts_in (m : Nat) : AnyZ.SortsIn Tryz.prog Tryz.sortedM_ren Fence.wide m :=
 ⟨fun blk off cap ss W hH hblk hsz => callsIn_wide.2 (AnyM.slices_Sort_string Tryz.sortM blk off cap ss W hH hblk hsz),
 fun p cap W => callsIn_wide.2 (AnyM.slices_Sort_string_none Tryz.sortM p cap W)⟩
theorem keys_any (mb : Option Nat) (W : World) : Calls Tryz.prog 31 #[.map mb] W fun e w' => e = .returned (.func (.func 65) #[] #[.pointer (some ⟨W.heap.size, 0, none⟩)]) /\ w' = W.alloc (.cells #[.map mb] 58) :=
 (callsIn_wide (n := 5)).1 (AnyZ.keys_in Tryz.keysM Fence.wide 5 trivial rfl mb W)
def GivesSs (w w' : World) (e : Ending) (T : List (List UInt8)) : Prop := ∃ v, e = .returned v /\ w'.ownsRow w.heap.size 9 1 v T.length (T.map encStr) /\ Below w.heap.size w w'
theorem sortedKeys_any {H : Type} (b nn : Nat) (D0 : DataW H) (R : Value -> Option (DataW H × List MemPlace)) (w : World) (hown : w.ownsMap Tryz.prog 9 R b nn D0) (hmax : Maps.size D0 <= maxLen) (hbytes : Maps.size D0 * 16 <= 140737488355328) :
  Calls Tryz.prog 30 #[.func (.func 65) #[] #[.pointer (some ⟨w.heap.size, 0, none⟩)]] (w.alloc (.cells #[.map (some b)] 58)) fun e w' => ∃ ss : List (List UInt8), ss.Perm (strKeys D0) /\ GivesSs (w.alloc (.cells #[.map (some b)] 58)) w' e (ss.mergeSort leB) := by
 have hbl := hown.lt
 have hseq : SeqGives Fence.wide 2 Tryz.prog 65 #[.pointer (some ⟨w.heap.size, 0, none⟩)] encStr (fun ss => ss.Perm (strKeys D0)) (Maps.size D0) (w.alloc (.cells #[.map (some b)] 58)) :=
  AnyZ.keys_gives (ρ := Tryz.keysM_ren) { Tryz.keysM with } Fence.wide _ trivial rfl (by omega) w.heap.size b nn D0 _ (by simp) (by simp) (by
   obtain ⟨es, clock, hb, Ft, hs, hD⟩ := hown
   exact ⟨es, clock, (Below.heap_alloc _ _ b hbl).trans hb, Ft, hs, hD⟩)
 have h := AnyZ.sorted_in Tryz.sortedM Fence.wide 5 trivial trivial trivial trivial rfl (by omega) (sorts_in _) (enters_of Tryz.func64 (by kernel_rfl) rfl) 65 #[.pointer (some ⟨w.heap.size, 0, none⟩)] trivial (enters_of Tryz.func65 (by kernel_rfl) rfl) _ _ hmax hbytes _ hseq
 refine ((callsIn_wide (n := 5)).1 h).mono ?_
 rintro e w' ⟨v, ss, rfl, hS, hrow, _, hb⟩
 refine ⟨ss, hS, v, rfl, ?_, hb⟩
 have e1 : (ss.mergeSort leB).length = ss.length := (List.mergeSort_perm ss leB).length_eq
 rw [e1]
 exact hrow
end
section
open Go.RowKit
attribute [local go_sem ↓] ldR_eq stR_eq
attribute [local go_sem] zero_RC cells_RV RC_size fold_RC
theorem build_RC (x y : Int) : ((RC rn0).setIfInBounds 0 (.int .i64 x)).setIfInBounds 1 (.int .i64 y) = RC ⟨x, y⟩ := rfl
attribute [local go_sem] build_RC
def lenOfS : Value -> Nat
 | .slice _ n _ => n
 | _ => 0
theorem meet_new (ao bo : Option Addr) (n cap m cap' : Nat) (A B : List Rn) (w : World) (hS : RSrc w ao n cap A) (hR : RSrc w bo m cap' B) :
  Calls Tryz.prog 83 #[.slice ao n cap, .slice bo m cap'] w fun e w' => GivesRN w w' e (MeetOf A B) := by
 have HS := hide hS
 have HR := hide hR
 clear hS hR
 go_enter Tryz.func83, Tryz.ntmps83
 go_wp2_with fail
 refine (norm_any ao n cap A _ HS.out).mono ?_
 rintro e w1 ⟨a1, n1, c1, X, rfl, S1, b1, p1⟩
 have HS1 := hide S1
 have HP1 := hide p1
 have HB1 := hide b1
 clear S1 b1 p1
 go_wp2_with fail
 refine (norm_any bo m cap' B _ (HR.out.below HB1.out)).mono ?_
 rintro e w2 ⟨a2, n2, c2, Y, rfl, S2, b2, p2⟩
 have HS2 := hide S2
 have HP2 := hide p2
 have HS1' := hide (HS1.out.below b2)
 have HB2 := hide (HB1.out.trans (b2.mono HB1.out.size))
 clear S2 b2 p2 HS1 HB1
 go_wp2_with fail
 go_loopw [5, 6, 7, 8, 9] (fun u v o _ _ wr => ∃ (ax : Option Addr) (nx cx : Nat) (x' : List Rn) (ay : Option Addr) (ny cy : Nat) (y' : List Rn) (ap : Option Addr) (c : Nat) (acc : List Rn), u = .slice ax nx cx /\ v = .slice ay ny cy /\ o = .slice ap acc.length c /\ RSrc w2 ax nx cx x' /\ RSrc w2 ay ny cy y' /\ OwnR w2.heap.size w2.heap.size w2 wr ap c acc /\ MtInv X Y x' y' acc) (fun u v _ _ _ _ => lenOfS u + lenOfS v)
 case atStart => exact ⟨a1, n1, c1, X, a2, n2, c2, Y, none, 0, [], rfl, rfl, rfl, HS1'.out, HS2.out, OwnR.nil (Below.refl _ _) (Nat.le_refl _) (Nat.le_refl _), MtInv.start HP1.out.1 HP2.out.1⟩
 case round =>
  obtain ⟨ax, nx, cx, x', ay, ny, cy, y', ap, c, acc, rfl, rfl, rfl, SX, SY, O, I⟩ := hrel
  rename World => w4
  have H : Hid (OwnR w2.heap.size w2.heap.size w2 w4 ap c acc /\ MtInv X Y x' y' acc) := ⟨O, I⟩
  have HSX := hide SX
  have HSY := hide SY
  have hal := form_small (Int.le_refl _) I.frm
  have hcx := SX.cap
  have hcy := SY.cap
  have hrx := SX.room
  have hry := SY.room
  unfold maxLen at hrx hry
  clear SX SY O I
  by_cases h1 : 0 < nx
  ·by_cases h2 : 0 < ny
   ·obtain ⟨adx, rfl, _⟩ := HSX.out.at 0 h1
    obtain ⟨ady, rfl, _⟩ := HSY.out.at 0 h2
    obtain ⟨bx, ox, rfl⟩ := HSX.out.spot h1
    obtain ⟨by_, oy, rfl⟩ := HSY.out.spot h2
    obtain ⟨a, xs, rfl⟩ : ∃ a xs, x' = a :: xs := by
     have := HSX.out.len
     cases x' with
     | nil => simp at this; omega
     | cons a xs => exact ⟨a, xs, rfl⟩
    obtain ⟨b, ys, rfl⟩ : ∃ b ys, y' = b :: ys := by
     have := HSY.out.len
     cases y' with
     | nil => simp at this; omega
     | cons b ys => exact ⟨b, ys, rfl⟩
    obtain ⟨q0, q1⟩ := HSX.out.nums 0 h1
    obtain ⟨q2, q3⟩ := HSY.out.nums 0 h2
    simp [List.getD] at q0 q1 q2 q3
    have HQ1 := hide q1
    have HQ3 := hide q3
    have k0 := cell_regrown ((H.out.1.below.cell (World.block_lt_of_cell? _ _ q0)).trans q0)
    have k1 := cell_regrown ((H.out.1.below.cell (World.block_lt_of_cell? _ _ q1)).trans q1)
    have k2 := cell_regrown ((H.out.1.below.cell (World.block_lt_of_cell? _ _ q2)).trans q2)
    have k3 := cell_regrown ((H.out.1.below.cell (World.block_lt_of_cell? _ _ q3)).trans q3)
    clear q0 q1 q2 q3
    by_cases hle : max a.lo b.lo <= min a.hi b.hi
    ·by_cases hlt : a.hi < b.hi
     ·go_wp2_with fail
      refine wp_region_quiet_below (by kernel_rfl) (by kernel_rfl) ?_
      repeat (with_reducible (refine wpQuiet_step ?_); intro K hK; go_simp; (try rw [if_neg (by unfold undef; simp)]); first | (with_reducible (refine hK _ ?_); clear hK K) | (apply Exists.intro; refine ⟨fun _ => ?_, hK _ ?_⟩; (fail); clear hK K))
      with_reducible (refine wpQuiet_nil ?_)
      intro w5 hw'
      obtain ⟨⟨dq, osq⟩, hw''⟩ := hw'
      have b5 : Below w4.heap.size w4 w5 := by rw [hw'']; exact below_regrown w4 dq osq
      clear hw'' dq osq
      have HO5 := hide (H.out.1.later b5)
      clear b5 k0 k1 k2 k3
      go_wp2_with (at_builtin; refine HO5.out.append ⟨max a.lo b.lo, min a.hi b.hi⟩ _ rfl (by omega) rfl (.tmp 43) (.tmp 47) rfl acc.length rfl rfl rfl ?_; intro g6 c6 w6 O6)
      have HO6 := hide O6
      clear O6
      have hl6 : (acc ++ [(⟨max a.lo b.lo, min a.hi b.hi⟩ : Rn)]).length = acc.length + 1 := by simp
      have k1 := cell_regrown ((HO6.out.below.cell (World.block_lt_of_cell? _ _ HQ1.out)).trans HQ1.out)
      have k3 := cell_regrown ((HO6.out.below.cell (World.block_lt_of_cell? _ _ HQ3.out)).trans HQ3.out)
      refine wp_region_quiet_below (by kernel_rfl) (by kernel_rfl) ?_
      repeat (with_reducible (refine wpQuiet_step ?_); intro K hK; go_simp; (try rw [if_neg (by unfold undef; simp)]); first | (with_reducible (refine hK _ ?_); clear hK K) | (apply Exists.intro; refine ⟨fun _ => ?_, hK _ ?_⟩; (fail); clear hK K))
      with_reducible (refine wpQuiet_nil ?_)
      intro w8 hw'
      obtain ⟨⟨dq, osq⟩, hw''⟩ := hw'
      have b8 : Below w6.heap.size w6 w8 := by rw [hw'']; exact below_regrown w6 dq osq
      clear hw'' dq osq
      have HO8 := hide (HO6.out.later b8)
      clear b8 k1 k3
      have HM : Hid (met acc a b = acc ++ [⟨max a.lo b.lo, min a.hi b.hi⟩]) := by show _ = _; unfold met; rw [if_pos (by omega)]
      have HN := hide (H.out.2.left (by omega))
      rw [HM.out] at HN
      go_wp2_with fail
      go_roundw
      case rel => exact ⟨if cx = 1 then some ⟨bx, ox, none⟩ else some ⟨bx, ox + 2, none⟩, nx - 1, cx - 1, xs, some ⟨by_, oy, none⟩, ny, cy, b :: ys, some ⟨g6, 0, none⟩, c6, acc ++ [⟨max a.lo b.lo, min a.hi b.hi⟩], rfl, rfl, by simp, HSX.out.tail', HSY.out, HO8.out, HN.out⟩
      case measure => simp [lenOfS]; omega
     ·go_wp2_with fail
      refine wp_region_quiet_below (by kernel_rfl) (by kernel_rfl) ?_
      repeat (with_reducible (refine wpQuiet_step ?_); intro K hK; go_simp; (try rw [if_neg (by unfold undef; simp)]); first | (with_reducible (refine hK _ ?_); clear hK K) | (apply Exists.intro; refine ⟨fun _ => ?_, hK _ ?_⟩; (fail); clear hK K))
      with_reducible (refine wpQuiet_nil ?_)
      intro w5 hw'
      obtain ⟨⟨dq, osq⟩, hw''⟩ := hw'
      have b5 : Below w4.heap.size w4 w5 := by rw [hw'']; exact below_regrown w4 dq osq
      clear hw'' dq osq
      have HO5 := hide (H.out.1.later b5)
      clear b5 k0 k1 k2 k3
      go_wp2_with (at_builtin; refine HO5.out.append ⟨max a.lo b.lo, min a.hi b.hi⟩ _ rfl (by omega) rfl (.tmp 43) (.tmp 47) rfl acc.length rfl rfl rfl ?_; intro g6 c6 w6 O6)
      have HO6 := hide O6
      clear O6
      have hl6 : (acc ++ [(⟨max a.lo b.lo, min a.hi b.hi⟩ : Rn)]).length = acc.length + 1 := by simp
      have k1 := cell_regrown ((HO6.out.below.cell (World.block_lt_of_cell? _ _ HQ1.out)).trans HQ1.out)
      have k3 := cell_regrown ((HO6.out.below.cell (World.block_lt_of_cell? _ _ HQ3.out)).trans HQ3.out)
      refine wp_region_quiet_below (by kernel_rfl) (by kernel_rfl) ?_
      repeat (with_reducible (refine wpQuiet_step ?_); intro K hK; go_simp; (try rw [if_neg (by unfold undef; simp)]); first | (with_reducible (refine hK _ ?_); clear hK K) | (apply Exists.intro; refine ⟨fun _ => ?_, hK _ ?_⟩; (fail); clear hK K))
      with_reducible (refine wpQuiet_nil ?_)
      intro w8 hw'
      obtain ⟨⟨dq, osq⟩, hw''⟩ := hw'
      have b8 : Below w6.heap.size w6 w8 := by rw [hw'']; exact below_regrown w6 dq osq
      clear hw'' dq osq
      have HO8 := hide (HO6.out.later b8)
      clear b8 k1 k3
      have HM : Hid (met acc a b = acc ++ [⟨max a.lo b.lo, min a.hi b.hi⟩]) := by show _ = _; unfold met; rw [if_pos (by omega)]
      have HN := hide (H.out.2.right (by omega))
      rw [HM.out] at HN
      go_wp2_with fail
      go_roundw
      case rel => exact ⟨some ⟨bx, ox, none⟩, nx, cx, a :: xs, if cy = 1 then some ⟨by_, oy, none⟩ else some ⟨by_, oy + 2, none⟩, ny - 1, cy - 1, ys, some ⟨g6, 0, none⟩, c6, acc ++ [⟨max a.lo b.lo, min a.hi b.hi⟩], rfl, rfl, by simp, HSX.out, HSY.out.tail', HO8.out, HN.out⟩
      case measure => simp [lenOfS]; omega
    ·by_cases hlt : a.hi < b.hi
     ·go_wp2_with fail
      refine wp_region_quiet_below (by kernel_rfl) (by kernel_rfl) ?_
      repeat (with_reducible (refine wpQuiet_step ?_); intro K hK; go_simp; (try rw [if_neg (by unfold undef; simp)]); first | (with_reducible (refine hK _ ?_); clear hK K) | (apply Exists.intro; refine ⟨fun _ => ?_, hK _ ?_⟩; (fail); clear hK K))
      with_reducible (refine wpQuiet_nil ?_)
      intro w5 hw'
      obtain ⟨⟨dq, osq⟩, hw''⟩ := hw'
      have b5 : Below w4.heap.size w4 w5 := by rw [hw'']; exact below_regrown w4 dq osq
      clear hw'' dq osq
      have HO5 := hide (H.out.1.later b5)
      clear b5 k0 k1 k2 k3
      go_wp2_with fail
      have k1 := cell_regrown ((HO5.out.below.cell (World.block_lt_of_cell? _ _ HQ1.out)).trans HQ1.out)
      have k3 := cell_regrown ((HO5.out.below.cell (World.block_lt_of_cell? _ _ HQ3.out)).trans HQ3.out)
      refine wp_region_quiet_below (by kernel_rfl) (by kernel_rfl) ?_
      repeat (with_reducible (refine wpQuiet_step ?_); intro K hK; go_simp; (try rw [if_neg (by unfold undef; simp)]); first | (with_reducible (refine hK _ ?_); clear hK K) | (apply Exists.intro; refine ⟨fun _ => ?_, hK _ ?_⟩; (fail); clear hK K))
      with_reducible (refine wpQuiet_nil ?_)
      intro w8 hw'
      obtain ⟨⟨dq, osq⟩, hw''⟩ := hw'
      have b8 : Below w5.heap.size w5 w8 := by rw [hw'']; exact below_regrown w5 dq osq
      clear hw'' dq osq
      have HO8 := hide (HO5.out.later b8)
      clear b8 k1 k3
      have HM : Hid (met acc a b = acc) := by show _ = _; unfold met; rw [if_neg (by omega)]
      have HN := hide (H.out.2.left (by omega))
      rw [HM.out] at HN
      go_wp2_with fail
      go_roundw
      case rel => exact ⟨if cx = 1 then some ⟨bx, ox, none⟩ else some ⟨bx, ox + 2, none⟩, nx - 1, cx - 1, xs, some ⟨by_, oy, none⟩, ny, cy, b :: ys, ap, c, acc, rfl, rfl, rfl, HSX.out.tail', HSY.out, HO8.out, HN.out⟩
      case measure => simp [lenOfS]; omega
     ·go_wp2_with fail
      refine wp_region_quiet_below (by kernel_rfl) (by kernel_rfl) ?_
      repeat (with_reducible (refine wpQuiet_step ?_); intro K hK; go_simp; (try rw [if_neg (by unfold undef; simp)]); first | (with_reducible (refine hK _ ?_); clear hK K) | (apply Exists.intro; refine ⟨fun _ => ?_, hK _ ?_⟩; (fail); clear hK K))
      with_reducible (refine wpQuiet_nil ?_)
      intro w5 hw'
      obtain ⟨⟨dq, osq⟩, hw''⟩ := hw'
      have b5 : Below w4.heap.size w4 w5 := by rw [hw'']; exact below_regrown w4 dq osq
      clear hw'' dq osq
      have HO5 := hide (H.out.1.later b5)
      clear b5 k0 k1 k2 k3
      go_wp2_with fail
      have k1 := cell_regrown ((HO5.out.below.cell (World.block_lt_of_cell? _ _ HQ1.out)).trans HQ1.out)
      have k3 := cell_regrown ((HO5.out.below.cell (World.block_lt_of_cell? _ _ HQ3.out)).trans HQ3.out)
      refine wp_region_quiet_below (by kernel_rfl) (by kernel_rfl) ?_
      repeat (with_reducible (refine wpQuiet_step ?_); intro K hK; go_simp; (try rw [if_neg (by unfold undef; simp)]); first | (with_reducible (refine hK _ ?_); clear hK K) | (apply Exists.intro; refine ⟨fun _ => ?_, hK _ ?_⟩; (fail); clear hK K))
      with_reducible (refine wpQuiet_nil ?_)
      intro w8 hw'
      obtain ⟨⟨dq, osq⟩, hw''⟩ := hw'
      have b8 : Below w5.heap.size w5 w8 := by rw [hw'']; exact below_regrown w5 dq osq
      clear hw'' dq osq
      have HO8 := hide (HO5.out.later b8)
      clear b8 k1 k3
      have HM : Hid (met acc a b = acc) := by show _ = _; unfold met; rw [if_neg (by omega)]
      have HN := hide (H.out.2.right (by omega))
      rw [HM.out] at HN
      go_wp2_with fail
      go_roundw
      case rel => exact ⟨some ⟨bx, ox, none⟩, nx, cx, a :: xs, if cy = 1 then some ⟨by_, oy, none⟩ else some ⟨by_, oy + 2, none⟩, ny - 1, cy - 1, ys, ap, c, acc, rfl, rfl, rfl, HSX.out, HSY.out.tail', HO8.out, HN.out⟩
      case measure => simp [lenOfS]; omega
   ·obtain rfl : ny = 0 := by omega
    have hy : y' = [] := List.eq_nil_of_length_eq_zero HSY.out.len
    have HD := hide (H.out.2.done (Or.inr hy) HP1.out HP2.out)
    obtain ⟨S4, F4⟩ := H.out.1.src (by omega)
    have HN : Hid (GivesRN w w4 (.returned (.slice ap acc.length c)) (MeetOf A B)) := ⟨ap, acc.length, c, acc, rfl, S4, HB2.out.trans (H.out.1.below.mono HB2.out.size), (fun ad h => Nat.le_trans HB2.out.size (F4 ad h)), HD.out⟩
    clear S4 F4
    go_wp2_with fail
    go_ret
    exact HN.out
  ·obtain rfl : nx = 0 := by omega
   have hx : x' = [] := List.eq_nil_of_length_eq_zero HSX.out.len
   have HD := hide (H.out.2.done (Or.inl hx) HP1.out HP2.out)
   obtain ⟨S4, F4⟩ := H.out.1.src (by omega)
   have HN : Hid (GivesRN w w4 (.returned (.slice ap acc.length c)) (MeetOf A B)) := ⟨ap, acc.length, c, acc, rfl, S4, HB2.out.trans (H.out.1.below.mono HB2.out.size), (fun ad h => Nat.le_trans HB2.out.size (F4 ad h)), HD.out⟩
   clear S4 F4
   go_wp2_with fail
   go_ret
   exact HN.out
end
end Go.Proofs.YtalcmdjiejhkgaaGreat
