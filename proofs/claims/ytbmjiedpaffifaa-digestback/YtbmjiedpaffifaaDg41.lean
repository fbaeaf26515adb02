/- FRs FRt -/
import Derived.Test.YtbmjiedpaffifaaDg40
namespace Go.Proofs.Ytbmjiedpaffifaa
open Go.RowKit
variable {w w' w2 W W' W2 w0 : World} {g b3 : Nat} {Z : List Int} {B : Option Nat}

theorem I.BR.runs1 {ao : Option Addr} {n cap : Nat} {Z : List Int} (h : I.BR w ao n cap Z) (x : Int) (hb : n + 1 ≤ 17592186044316) (ty : TypeId) :
    ∃ bo c2 w2, (Builtin.append_ #[22, 22] ty #[.slice ao n cap, .slice (some ⟨w.heap.size, 0, none⟩) 1 1]).run Try.prog (w.alloc (.cells #[.int .i64 x] 3)) = .ok (.slice bo (n + 1) c2) w2 ∧ I.BR w2 bo (n + 1) c2 (Z ++ [x]) ∧ U.Ap w w2 ao bo := by
  obtain ⟨i0, hi, hz0, hz1, hz2⟩ := info_parts I.infoB
  have hk := h.new (.cells #[.int .i64 x] 3)
  obtain ⟨v', w2, hrun, hown, hgrow, hnil, hat⟩ := run_append_own_at (P := Try.prog) (w.alloc (.cells #[.int .i64 x] 3)) 0 22 ty 3 i0 (.int .i64 0) 1 8 Try.underlying22 hi hz0 hz1 hz2 rfl (by decide) (.slice ao n cap) n (I.bcs Z) hk ⟨w.heap.size, 0, none⟩ 1 1 (I.bcs [x]) rfl (fun j u hj => by
    have hl : j < 1 := (List.getElem?_eq_some_iff.1 hj).1
    obtain rfl : j = 0 := by omega
    rw [cell_one_new w _ _ 0 _ rfl]
    exact hj) (I.bcs_one [x]) (by unfold maxLen; omega) (by omega) (Nat.zero_le _)
  rw [← I.bcs_append] at hown
  obtain ⟨bo, c2, rfl, hP⟩ := I.BR.out hown
  rw [U.ownBlock_blk] at hgrow
  rw [U.ownBlock_blk, U.ownBlock_blk] at hat
  refine ⟨bo, c2, w2, hrun, hP, (U.Ap.new w _ ao).trans ⟨hgrow, ?_⟩⟩
  rcases hat with e | e
  · exact Or.inl e
  · exact Or.inr ⟨_, e, Nat.le_refl _⟩
/-- append as an operation that comes up -/
theorem step_appI {ops : Array Oper} {o : Oper} {a : Act} {K : Act → World → Prop} {Q : Exit → Act → World → Prop} {E : Prop} {v1 v2 v' : Value} (hgd : o.guard = none) (s x : Operand) (ho : o.op = .call { callee := .builtin .append, args := #[s, x], argTypes := #[22, 22] })
    (hs : a.eval s = v1) (hx : a.eval x = v2) (hrun : (Builtin.append_ #[22, 22] o.type #[v1, v2]).run Try.prog W = .ok v' w2) (hK : K (a.put o.dst v') w2) :
    if Region.wanted o (yielded ops a.tmps) = true then Oper.wp Try.prog o a W K Q else E := by
  have hw : Region.wanted o (yielded ops a.tmps) = true := by simp [Region.wanted, hgd]
  rw [if_pos hw]
  unfold Oper.wp
  simp [execOp, ho, resolve, invoke, builtin, hs, hx, hrun, Result.andThen]
  exact hK
theorem RB.keep (R : RB W g Z B) (hg : W'.heap[g]? = W.heap[g]?) (hB : ∀ k, B = some k → W'.heap[k]? = W.heap[k]?) : RB W' g Z B := by
  obtain ⟨ro, rn, rc, R, e⟩ := R
  refine ⟨ro, rn, rc, ⟨hg.trans R.r, ⟨R.s.1, R.s.2.1, fun ad ea t ht => ?_, R.s.2.2.2⟩, R.cap, R.big, R.ne⟩, e⟩
  rw [World.cell?_of_block (w := W) (by rw [U.block_of_add]; exact hB _ (by rw [← e (fun ez => by have := R.s.1; rw [ez] at this; simp at this; omega), ea]; rfl))]
  exact R.s.2.2.1 ad ea t ht
/-- a reader, a past that grows (its box, its two rows) and blocks that are kept, all of them new -/
structure RP (w0 W : World) (g : Nat) (Z : List Int) (B : Option Nat) (b3 : Nat) (vo : Option Addr) (vn vc : Nat) (V : List Int) (co : Option Addr) (cn cc : Nat) (C : List Sn) (F : List (Nat × Obj)) : Prop where
  r : RB W g Z B
  gl : g < w0.heap.size
  bl : ∀ k, B = some k → k < w0.heap.size
  k : U.Kg w0 W g
  box : W.heap[b3]? = some (.cells #[.slice vo vn vc, .slice co cn cc] 25 (0, 0))
  b3n : w0.heap.size ≤ b3
  v : I.BR W vo vn vc V
  c : J.BR W co cn cc C
  vnew : ∀ k, U.blk vo = some k → w0.heap.size ≤ k ∧ k ≠ b3 ∧ ∀ x ∈ F, x.1 ≠ k
  cnew : ∀ k, U.blk co = some k → w0.heap.size ≤ k ∧ k ≠ b3 ∧ U.blk vo ≠ some k ∧ ∀ x ∈ F, x.1 ≠ k
  keep : ∀ x ∈ F, W.heap[x.1]? = some x.2 ∧ w0.heap.size ≤ x.1 ∧ x.1 ≠ b3
variable {vo co : Option Addr} {vn vc cn cc : Nat} {V : List Int} {C : List Sn} {F : List (Nat × Obj)}
theorem some_lt {W : World} {k : Nat} {o : Obj} (h : W.heap[k]? = some o) : k < W.heap.size := (Array.getElem?_eq_some_iff.1 h).1
/-- the reader went on -/
theorem RP.num (h : RP w0 W g Z B b3 vo vn vc V co cn cc C F) (K : U.Kg W W' g) {Z' : List Int} (R : RB W' g Z' B) : RP w0 W' g Z' B b3 vo vn vc V co cn cc C F := by
  have hg := h.gl
  have hb := h.b3n
  refine ⟨R, h.gl, h.bl, h.k.trans K, (K.block b3 (some_lt h.box) (by omega)).trans h.box, h.b3n, h.v.keep fun k e => K.block k (h.v.lt k e) (by have := (h.vnew k e).1; omega), h.c.keep fun k e => K.block k (h.c.lt k e) (by have := (h.cnew k e).1; omega), h.vnew, h.cnew, fun x hx => ?_⟩
  obtain ⟨k1, k2, k3⟩ := h.keep x hx
  exact ⟨(K.block x.1 (some_lt k1) (by omega)).trans k1, k2, k3⟩
theorem RP.below (h : RP w0 W g Z B b3 vo vn vc V co cn cc C F) (b : Below W.heap.size W W') : RP w0 W' g Z B b3 vo vn vc V co cn cc C F := h.num (U.Kg.of_below b) (h.r.below b)
/-- a new block is kept too -/
theorem RP.add (h : RP w0 W g Z B b3 vo vn vc V co cn cc C F) (b : Below W.heap.size W W') {q : Nat} {o : Obj} (hq : W.heap.size ≤ q) (ho : W'.heap[q]? = some o) : RP w0 W' g Z B b3 vo vn vc V co cn cc C ((q, o) :: F) := by
  have h2 := h.below b
  have hs := h.k.size
  have h3 := some_lt h.box
  refine ⟨h2.r, h2.gl, h2.bl, h2.k, h2.box, h2.b3n, h2.v, h2.c, fun k e => ⟨(h.vnew k e).1, (h.vnew k e).2.1, fun x hx => ?_⟩, fun k e => ⟨(h.cnew k e).1, (h.cnew k e).2.1, (h.cnew k e).2.2.1, fun x hx => ?_⟩, fun x hx => ?_⟩
  · rcases List.mem_cons.1 hx with rfl | hx
    · have := h.v.lt k e; show q ≠ k; omega
    · exact (h.vnew k e).2.2 x hx
  · rcases List.mem_cons.1 hx with rfl | hx
    · have := h.c.lt k e; show q ≠ k; omega
    · exact (h.cnew k e).2.2.2 x hx
  · rcases List.mem_cons.1 hx with rfl | hx
    · exact ⟨ho, by show _ ≤ q; omega, by show q ≠ b3; omega⟩
    · exact h2.keep x hx
/-- one of the kept blocks was written -/
theorem RP.turn (h : RP w0 W g Z B b3 vo vn vc V co cn cc C F) {q : Nat} {o1 o2 : Obj} (h1 : (q, o1) ∈ F) (K : U.Kg W W' q) (h2 : W'.heap[q]? = some o2) {F' : List (Nat × Obj)} (hF : ∀ x ∈ F', x = (q, o2) ∨ (x ∈ F ∧ x.1 ≠ q)) : RP w0 W' g Z B b3 vo vn vc V co cn cc C F' := by
  obtain ⟨q1, q2, q3⟩ := h.keep _ h1
  have hg := h.gl
  have hk := h.k
  have e1 : ∀ k, k < W.heap.size → k ≠ q → W'.heap[k]? = W.heap[k]? := fun k hk hn => K.block k hk hn
  have hin : ∀ x ∈ F', ∃ y ∈ F, y.1 = x.1 := fun x hx => by
    rcases hF x hx with rfl | ⟨hx, _⟩
    · exact ⟨_, h1, rfl⟩
    · exact ⟨x, hx, rfl⟩
  simp only at q1 q2 q3
  refine ⟨h.r.keep (e1 g h.r.lt (by omega)) (fun k e => ?_), h.gl, h.bl, ⟨K.os.trans hk.os, K.tape.trans hk.tape, K.output.trans hk.output, Nat.le_trans hk.size K.size, fun k hk1 hn => (e1 k (Nat.lt_of_lt_of_le hk1 hk.size) (by omega)).trans (hk.block k hk1 hn)⟩, (e1 b3 (some_lt h.box) (fun e => q3 e.symm)).trans h.box, h.b3n, h.v.keep fun k e => e1 k (h.v.lt k e) (fun x => (h.vnew k e).2.2 _ h1 x.symm), h.c.keep fun k e => e1 k (h.c.lt k e) (fun x => (h.cnew k e).2.2.2 _ h1 x.symm), fun k e => ⟨(h.vnew k e).1, (h.vnew k e).2.1, fun x hx => ?_⟩, fun k e => ⟨(h.cnew k e).1, (h.cnew k e).2.1, (h.cnew k e).2.2.1, fun x hx => ?_⟩, fun x hx => ?_⟩
  · have := h.bl k e
    have := hk.size
    exact e1 k (by omega) (by omega)
  · obtain ⟨y, hy, ey⟩ := hin x hx; rw [← ey]; exact (h.vnew k e).2.2 y hy
  · obtain ⟨y, hy, ey⟩ := hin x hx; rw [← ey]; exact (h.cnew k e).2.2.2 y hy
  · rcases hF x hx with rfl | ⟨hx, hn⟩
    · exact ⟨h2, q2, q3⟩
    · obtain ⟨k1, k2, k3⟩ := h.keep x hx
      exact ⟨(e1 x.1 (some_lt k1) hn).trans k1, k2, k3⟩
/-- the places grew, and are stored -/
theorem RP.appV (h : RP w0 W g Z B b3 vo vn vc V co cn cc C F) {bo : Option Addr} {n2 c2 : Nat} {V2 : List Int} (A : U.Ap W W2 vo bo) (h2 : I.BR W2 bo n2 c2 V2) : RP w0 (W2.setCell ⟨b3, 0, none⟩ (.slice bo n2 c2)) g Z B b3 bo n2 c2 V2 co cn cc C F := by
  have hg := h.gl
  have hb := h.b3n
  have hk := h.k
  have hsz := A.grown.size
  have hvo : ∀ k, k < W.heap.size → U.blk vo ≠ some k → W2.heap[k]? = W.heap[k]? := fun k hk hn => A.grown.block k hk (fun e => hn e.symm)
  have nb3 : U.blk vo ≠ some b3 := fun e => (h.vnew b3 e).2.1 rfl
  have nlow : ∀ k, k < w0.heap.size → U.blk vo ≠ some k := fun k hk e => by have := (h.vnew k e).1; omega
  have e1 : ∀ k, k < W.heap.size → k ≠ b3 → U.blk vo ≠ some k → (W2.setCell ⟨b3, 0, none⟩ (.slice bo n2 c2)).heap[k]? = W.heap[k]? := fun k hk h3 hn => (U.set_other W2 b3 0 k _ h3).trans (hvo k hk hn)
  have hbo : ∀ k, U.blk bo = some k → U.blk vo = some k ∨ W.heap.size ≤ k := fun k e => by
    rcases A.lies with x | ⟨j, x, hj⟩
    · exact .inl (x ▸ e)
    · rw [x] at e; exact .inr (by have := Option.some.inj e; omega)
  have hbox : W2.heap[b3]? = some (.cells #[.slice vo vn vc, .slice co cn cc] 25 (0, 0)) := (hvo b3 (some_lt h.box) nb3).trans h.box
  have hb3 := some_lt h.box
  have bne : ∀ k, U.blk bo = some k → k ≠ b3 := fun k e e3 => by
    rcases hbo k e with x | x
    · exact nb3 (e3 ▸ x)
    · omega
  refine ⟨h.r.keep (e1 g h.r.lt (by omega) (nlow g hg)) (fun k e => ?_), h.gl, h.bl, ⟨?_, ?_, ?_, ?_, fun k hk1 hn => ?_⟩, U.set_heap W2 b3 _ _ _ 0 _ hbox, h.b3n, h2.keep fun k e => U.set_other W2 b3 0 k _ (bne k e), h.c.keep fun k e => e1 k (h.c.lt k e) (h.cnew k e).2.1 (h.cnew k e).2.2.1, fun k e => ⟨?_, bne k e, fun x hx => ?_⟩, fun k e => ⟨(h.cnew k e).1, (h.cnew k e).2.1, fun e2 => ?_, (h.cnew k e).2.2.2⟩, fun x hx => ?_⟩
  · have := h.bl k e
    have := hk.size
    exact e1 k (by omega) (by omega) (nlow k (h.bl k e))
  · rw [U.setCell_os]; exact A.grown.os.trans hk.os
  · rw [U.setCell_tape]; exact A.grown.tape.trans hk.tape
  · rw [U.setCell_output]; exact A.grown.output.trans hk.output
  · rw [U.set_size]; exact Nat.le_trans hk.size hsz
  · exact (e1 k (Nat.lt_of_lt_of_le hk1 hk.size) (by omega) (nlow k hk1)).trans (hk.block k hk1 hn)
  · rcases hbo k e with x | x
    · exact (h.vnew k x).1
    · have := hk.size; omega
  · rcases hbo k e with y | y
    · exact (h.vnew k y).2.2 x hx
    · have := some_lt (h.keep x hx).1; omega
  · rcases hbo k e2 with y | y
    · exact (h.cnew k e).2.2.1 y
    · have := h.c.lt k e; omega
  · obtain ⟨k1, k2, k3⟩ := h.keep x hx
    exact ⟨(e1 x.1 (some_lt k1) k3 (fun e => (h.vnew _ e).2.2 x hx rfl)).trans k1, k2, k3⟩
/-- the spans grew, and are stored -/
theorem RP.appC (h : RP w0 W g Z B b3 vo vn vc V co cn cc C F) {bo : Option Addr} {n2 c2 : Nat} {C2 : List Sn} (A : U.Ap W W2 co bo) (h2 : J.BR W2 bo n2 c2 C2) : RP w0 (W2.setCell ⟨b3, 1, none⟩ (.slice bo n2 c2)) g Z B b3 vo vn vc V bo n2 c2 C2 F := by
  have hg := h.gl
  have hb := h.b3n
  have hk := h.k
  have hsz := A.grown.size
  have hvo : ∀ k, k < W.heap.size → U.blk co ≠ some k → W2.heap[k]? = W.heap[k]? := fun k hk hn => A.grown.block k hk (fun e => hn e.symm)
  have nb3 : U.blk co ≠ some b3 := fun e => (h.cnew b3 e).2.1 rfl
  have nlow : ∀ k, k < w0.heap.size → U.blk co ≠ some k := fun k hk e => by have := (h.cnew k e).1; omega
  have e1 : ∀ k, k < W.heap.size → k ≠ b3 → U.blk co ≠ some k → (W2.setCell ⟨b3, 1, none⟩ (.slice bo n2 c2)).heap[k]? = W.heap[k]? := fun k hk h3 hn => (U.set_other W2 b3 1 k _ h3).trans (hvo k hk hn)
  have hbo : ∀ k, U.blk bo = some k → U.blk co = some k ∨ W.heap.size ≤ k := fun k e => by
    rcases A.lies with x | ⟨j, x, hj⟩
    · exact .inl (x ▸ e)
    · rw [x] at e; exact .inr (by have := Option.some.inj e; omega)
  have hbox : W2.heap[b3]? = some (.cells #[.slice vo vn vc, .slice co cn cc] 25 (0, 0)) := (hvo b3 (some_lt h.box) nb3).trans h.box
  have hb3 := some_lt h.box
  have bne : ∀ k, U.blk bo = some k → k ≠ b3 := fun k e e3 => by
    rcases hbo k e with x | x
    · exact nb3 (e3 ▸ x)
    · omega
  have nvc : ∀ k, U.blk vo = some k → U.blk co ≠ some k := fun k e e2 => (h.cnew k e2).2.2.1 e
  refine ⟨h.r.keep (e1 g h.r.lt (by omega) (nlow g hg)) (fun k e => ?_), h.gl, h.bl, ⟨?_, ?_, ?_, ?_, fun k hk1 hn => ?_⟩, U.set_heap W2 b3 _ _ _ 1 _ hbox, h.b3n, h.v.keep fun k e => e1 k (h.v.lt k e) (h.vnew k e).2.1 (nvc k e), h2.keep fun k e => U.set_other W2 b3 1 k _ (bne k e), h.vnew, fun k e => ⟨?_, bne k e, fun e2 => ?_, fun x hx => ?_⟩, fun x hx => ?_⟩
  · have := h.bl k e
    have := hk.size
    exact e1 k (by omega) (by omega) (nlow k (h.bl k e))
  · rw [U.setCell_os]; exact A.grown.os.trans hk.os
  · rw [U.setCell_tape]; exact A.grown.tape.trans hk.tape
  · rw [U.setCell_output]; exact A.grown.output.trans hk.output
  · rw [U.set_size]; exact Nat.le_trans hk.size hsz
  · exact (e1 k (Nat.lt_of_lt_of_le hk1 hk.size) (by omega) (nlow k hk1)).trans (hk.block k hk1 hn)
  · rcases hbo k e with x | x
    · exact (h.cnew k x).1
    · have := hk.size; omega
  · rcases hbo k e with y | y
    · exact nvc k e2 y
    · have := h.v.lt k e2; omega
  · rcases hbo k e with y | y
    · exact (h.cnew k y).2.2.2 x hx
    · have := some_lt (h.keep x hx).1; omega
  · obtain ⟨k1, k2, k3⟩ := h.keep x hx
    exact ⟨(e1 x.1 (some_lt k1) k3 (fun e => (h.cnew _ e).2.2.2 x hx rfl)).trans k1, k2, k3⟩
end Go.Proofs.Ytbmjiedpaffifaa
namespace Go.Proofs.Ytbmjiedpaffifaa
open Go.RowKit
variable {w w' w2 W W' W2 w0 : World} {g b3 : Nat} {Z : List Int} {B : Option Nat}
variable {vo co : Option Addr} {vn vc cn cc : Nat} {V : List Int} {C : List Sn} {F : List (Nat × Obj)}

/-- nothing is read yet -/
theorem RP.start (R : RB w0 g Z B) (hB : ∀ k, B = some k → k < w0.heap.size) (b : Below w0.heap.size w0 W) (hF : ∀ x ∈ F, W.heap[x.1]? = some x.2 ∧ w0.heap.size ≤ x.1) :
    RP w0 (W.alloc (.cells #[.slice none 0 0, .slice none 0 0] 25)) g Z B W.heap.size none 0 0 [] none 0 0 [] F := by
  have hn := U.below_new W (.cells #[.slice none 0 0, .slice none 0 0] 25)
  have b2 := b.trans (hn.mono b.size)
  have hs := b.size
  refine ⟨R.below b2, R.lt, hB, U.Kg.of_below b2, heap_alloc_new W _, b.size, I.BR.nil _, J.BR.nil _, fun k e => (by cases e), fun k e => (by cases e), fun x hx => ?_⟩
  obtain ⟨k1, k2⟩ := hF x hx
  have h1 := some_lt k1
  exact ⟨(hn.block x.1 h1).trans k1, k2, by omega⟩
/-- the places grew, and are not stored yet -/
theorem RP.heldV (h : RP w0 W g Z B b3 vo vn vc V co cn cc C F) {bo : Option Addr} (A : U.Ap W W2 vo bo) : W2.heap[b3]? = some (.cells #[.slice vo vn vc, .slice co cn cc] 25 (0, 0)) ∧ ∀ x ∈ F, W2.heap[x.1]? = some x.2 :=
  ⟨(A.grown.block b3 (some_lt h.box) (fun e => (h.vnew b3 e.symm).2.1 rfl)).trans h.box, fun x hx => (A.grown.block x.1 (some_lt (h.keep x hx).1) (fun e => (h.vnew x.1 e.symm).2.2 x hx rfl)).trans (h.keep x hx).1⟩
theorem RP.heldC (h : RP w0 W g Z B b3 vo vn vc V co cn cc C F) {bo : Option Addr} (A : U.Ap W W2 co bo) : W2.heap[b3]? = some (.cells #[.slice vo vn vc, .slice co cn cc] 25 (0, 0)) ∧ ∀ x ∈ F, W2.heap[x.1]? = some x.2 :=
  ⟨(A.grown.block b3 (some_lt h.box) (fun e => (h.cnew b3 e.symm).2.1 rfl)).trans h.box, fun x hx => (A.grown.block x.1 (some_lt (h.keep x hx).1) (fun e => (h.cnew x.1 e.symm).2.2.2 x hx rfl)).trans (h.keep x hx).1⟩
theorem pbox_c0 {W : World} {b : Nat} {x y : Value} (h : W.heap[b]? = some (.cells #[x, y] 25 (0, 0))) : W.cell? ⟨b, 0, none⟩ = some x ∧ W.cell? ⟨b, 1, none⟩ = some y ∧ ∀ j, W.frozen? ⟨b, j, none⟩ = false :=
  ⟨by simp [World.cell?, h], by simp [World.cell?, h], fun j => by simp [World.frozen?, h]⟩
/-- one place read -/
theorem rdVec_bad {n : Nat} (h : U.pNum 1000000000 Z = none) : rdVec (n + 1) Z = none := by rw [rdVec, h]
theorem rdVec_next {n v : Nat} {Z1 V : List Int} (h : U.pNum 1000000000 Z = some (v, Z1)) : (rdVec (n + 1) Z).map (fun x => (V ++ x.1, x.2)) = (rdVec n Z1).map (fun x => ((V ++ [(v : Int)]) ++ x.1, x.2)) := by
  rw [rdVec, h]
  simp only
  cases rdVec n Z1 with
  | none => rfl
  | some y => obtain ⟨a, b⟩ := y; simp
/-- one span read -/
theorem rdCloud_bad {n : Nat} {T : Nat → Int} {r0 : Int} (h : plF T r0 Z = none) : rdCloud (n + 1) T r0 Z = none := by
  rw [rdCloud]
  unfold plF at h
  cases h1 : U.pNum (15 - r0) Z with
  | none => rfl
  | some y =>
    obtain ⟨a, Z1⟩ := y
    rw [h1] at h
    simp only at h ⊢
    cases h2 : U.pNum (1000000000 - (T (r0 + a).toNat + 2)) Z1 with
    | none => rfl
    | some y => rw [h2] at h; cases h
theorem plF_some {T : Nat → Int} {r0 a b : Int} {Z2 : List Int} (h : plF T r0 Z = some (a, b, Z2)) : r0 ≤ a ∧ a ≤ 15 ∧ T a.toNat + 2 ≤ b ∧ b ≤ 1000000000 := by
  unfold plF at h
  cases h1 : U.pNum (15 - r0) Z with
  | none => rw [h1] at h; cases h
  | some y =>
    obtain ⟨x, Z1⟩ := y
    rw [h1] at h
    simp only at h
    have l1 := pNum_le h1
    cases h2 : U.pNum (1000000000 - (T (r0 + x).toNat + 2)) Z1 with
    | none => rw [h2] at h; cases h
    | some y =>
      obtain ⟨z, Z3⟩ := y
      rw [h2] at h
      have l2 := pNum_le h2
      simp only [Option.some.injEq, Prod.mk.injEq] at h
      obtain ⟨rfl, rfl, _⟩ := h
      exact ⟨by omega, by omega, by omega, by omega⟩
theorem rdCloud_at {n : Nat} {T : Nat → Int} {r0 a b : Int} {Z2 : List Int} (h : plF T r0 Z = some (a, b, Z2)) : rdCloud (n + 1) T r0 Z = match U.pNum (1000000000 - b) Z2 with
    | none => none
    | some (c, Z3) => match rdCloud n (upd T a.toNat (b + c)) a Z3 with
      | none => none
      | some (L, R) => some (⟨a, b, b + c⟩ :: L, R) := by
  rw [rdCloud]
  unfold plF at h
  cases h1 : U.pNum (15 - r0) Z with
  | none => rw [h1] at h; cases h
  | some y =>
    obtain ⟨x, Z1⟩ := y
    rw [h1] at h
    simp only at h ⊢
    cases h2 : U.pNum (1000000000 - (T (r0 + x).toNat + 2)) Z1 with
    | none => rw [h2] at h; cases h
    | some y =>
      obtain ⟨z, Z3⟩ := y
      rw [h2] at h
      simp only [Option.some.injEq, Prod.mk.injEq] at h
      obtain ⟨rfl, rfl, rfl⟩ := h
      rfl
theorem rdCloud_bad2 {n : Nat} {T : Nat → Int} {r0 a b : Int} {Z2 : List Int} (h : plF T r0 Z = some (a, b, Z2)) (h2 : U.pNum (1000000000 - b) Z2 = none) : rdCloud (n + 1) T r0 Z = none := by rw [rdCloud_at h, h2]
theorem rdCloud_next {n c : Nat} {T : Nat → Int} {r0 a b : Int} {Z2 Z3 : List Int} {C : List Sn} (h : plF T r0 Z = some (a, b, Z2)) (h2 : U.pNum (1000000000 - b) Z2 = some (c, Z3)) :
    (rdCloud (n + 1) T r0 Z).map (fun x => (C ++ x.1, x.2)) = (rdCloud n (upd T a.toNat (b + c)) a Z3).map (fun x => ((C ++ [⟨a, b, b + c⟩]) ++ x.1, x.2)) := by
  rw [rdCloud_at h, h2]
  simp only
  cases rdCloud n (upd T a.toNat (b + c)) a Z3 with
  | none => rfl
  | some y => obtain ⟨L, R⟩ := y; simp
/-- the room of a cloud -/
theorem room_next {T : Nat → Int} {r0 a b : Int} {cn c : Nat} (h : (cn : Int) ≤ r0 * 1000000001 + T r0.toNat) (hT : T r0.toNat ≤ 1000000000) (h0 : 0 ≤ r0) (h1 : r0 ≤ a) (h2 : T a.toNat + 2 ≤ b) (h3 : 0 ≤ b) : ((cn + 1 : Nat) : Int) ≤ a * 1000000001 + upd T a.toNat (b + c) a.toNat := by
  have e : upd T a.toNat (b + c) a.toNat = b + c := by unfold upd; rw [if_pos rfl]
  rw [e]
  by_cases x : a = r0
  · subst x; omega
  · omega
end Go.Proofs.Ytbmjiedpaffifaa
