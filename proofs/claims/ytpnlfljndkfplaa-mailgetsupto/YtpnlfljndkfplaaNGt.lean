/- mail.next: the numbers ahead of the parts. -/
import Derived.Test.YtpnlfljndkfplaaNRd
import Derived.Test.YtpnlfljndkfplaaURi
import Derived.OrdersHeld
namespace Go.Proofs.Ytpnlfljndkfplaa
open Go.RowKit
attribute [local go_sem ↓] ldP_eq stP_eq ldM_eq stM_eq mkP_eq
attribute [local go_sem] to_MC MC_s0 MC_s1 MC_s2 MC_s3 MC_s4 MC_s5
variable {w w' w2 wr : World} {g g2 g3 : Nat} {ro so : Option Addr} {rn rc sn sc : Nat} {Z : List Int} {m : Ml}

def pm7 (k f t l h n : Nat) (Z : List Int) : Option (Pm × List Int) :=
  match pParts n Z with
  | none => none
  | some (P, R) => some (⟨k, f, t, l, h, P⟩, R)
def pm6 (k f t l h : Nat) (Z : List Int) : Option (Pm × List Int) :=
  match pNum 64 Z with
  | none => none
  | some (n, Z6) => pm7 k f t l h n Z6
def pm5 (k f t l : Nat) (Z : List Int) : Option (Pm × List Int) := match pNum 4611686018427387904 Z with | none => none | some (h, Z5) => pm6 k f t l h Z5
def pm4 (k f t : Nat) (Z : List Int) : Option (Pm × List Int) := match pNum 4611686018427387904 Z with | none => none | some (l, Z4) => pm5 k f t l Z4
def pm3 (k f : Nat) (Z : List Int) : Option (Pm × List Int) := match pNum 15 Z with | none => none | some (t, Z3) => pm4 k f t Z3
def pm2 (k : Nat) (Z : List Int) : Option (Pm × List Int) := match pNum 15 Z with | none => none | some (f, Z2) => pm3 k f Z2
def pm1 (Z : List Int) : Option (Pm × List Int) := match pNum 6 Z with | none => none | some (k, Z1) => pm2 k Z1
theorem pMail_pm (Z : List Int) : pMail Z = pm1 Z := rfl
theorem MBox.z (h : MBox w g m) (j : Nat) : w.frozen? ⟨g, j, none⟩ = false := by unfold MBox at h; simp [World.frozen?, h]
theorem Src.keep0 {n c : Nat} (S : Src w so n c Z) (hk : n ≠ 0 → ∀ k, blk so = some k → w'.heap[k]? = w.heap[k]?) : Src w' so n c Z :=
  ⟨S.1, S.2.1, fun ad ha t ht => by
    rw [World.cell?_of_block (hk (by omega) _ (by rw [ha]; exact congrArg some (block_of_add ad t).symm))]
    exact S.2.2.1 ad ha t ht, S.2.2.2⟩
theorem RL.keep0 (R : RL w g ro rn rc Z) (h1 : w'.heap[g]? = w.heap[g]?) (hk : rn ≠ 0 → ∀ k, blk ro = some k → w'.heap[k]? = w.heap[k]?) : RL w' g ro rn rc Z := ⟨h1.trans R.r, R.s.keep0 hk, R.cap, R.big, R.ne⟩
/-- a reader, the result's mail and the mail that is filled -/
structure NI (w wr : World) (g g2 g3 : Nat) (ro : Option Addr) (rn rc : Nat) (Z : List Int) (m : Ml) : Prop where
  rl : RL wr g ro rn rc Z
  b2 : MBox wr g2 ⟨0, 0, 0, 0, 0, none, 0, 0⟩
  b3 : MBox wr g3 m
  kg : Kg w wr g
  lt : g < w.heap.size ∧ w.heap.size ≤ g2 ∧ w.heap.size ≤ g3 ∧ g2 ≠ g3
  src : rn ≠ 0 → ∀ k, blk ro = some k → k < w.heap.size
theorem NI.num {k : Nat} (h : NI w wr g g2 g3 ro rn rc Z m) (M : Mv wr w2 g ro rn k Z) : ∃ so sn sc, NI w w2 g g2 g3 so sn sc (Z.drop k) m := by
  obtain ⟨so, sc, R, hb, K⟩ := M
  obtain ⟨p1, p2, p3, p4⟩ := h.lt
  exact ⟨so, rn - k, sc, R, (K.block g2 h.b2.lt (by omega)).trans h.b2, (K.block g3 h.b3.lt (by omega)).trans h.b3, h.kg.trans K, h.lt, fun h0 j e => h.src (by omega) j (by rw [← hb]; exact e)⟩
theorem NI.store {m' : Ml} (h : NI w wr g g2 g3 ro rn rc Z m) (j : Nat) (v : Value) (hm : (MC m).setIfInBounds j v = MC m') : NI w (wr.setCell ⟨g3, j, none⟩ v) g g2 g3 ro rn rc Z m' := by
  obtain ⟨p1, p2, p3, p4⟩ := h.lt
  refine ⟨h.rl.keep0 (set_other wr g3 j g v (by omega)) (fun h0 k e => set_other wr g3 j k v (by have := h.src h0 k e; omega)), (set_other wr g3 j g2 v p4).trans h.b2, ?_, ⟨(setCell_os _ _ _).trans h.kg.os, (setCell_tape _ _ _).trans h.kg.tape, (setCell_output _ _ _).trans h.kg.output, by rw [set_size]; exact h.kg.size, fun k hk hn => (set_other wr g3 j k v (by omega)).trans (h.kg.block k hk hn)⟩, h.lt, h.src⟩
  have := set_heap wr g3 _ _ _ j v h.b3
  rw [hm] at this
  exact this
theorem NI.below (h : NI w wr g g2 g3 ro rn rc Z m) (b : Below wr.heap.size wr w2) : NI w w2 g g2 g3 ro rn rc Z m :=
  ⟨h.rl.kg_below b, h.b2.below b, h.b3.below b, h.kg.trans (Kg.of_below b), h.lt, h.src⟩
theorem NI.at {v : Value} (h : NI w wr g g2 g3 ro rn rc Z m) (b j : Nat) (hb : w.heap.size ≤ b) (h2 : b ≠ g2) (h3 : b ≠ g3) : NI w (wr.setCell ⟨b, j, none⟩ v) g g2 g3 ro rn rc Z m := by
  obtain ⟨p1, p2, p3, p4⟩ := h.lt
  exact ⟨h.rl.keep0 (set_other wr b j g v (by omega)) (fun h0 k e => set_other wr b j k v (by have := h.src h0 k e; omega)), (set_other wr b j g2 v (Ne.symm h2)).trans h.b2, (set_other wr b j g3 v (Ne.symm h3)).trans h.b3, ⟨(setCell_os _ _ _).trans h.kg.os, (setCell_tape _ _ _).trans h.kg.tape, (setCell_output _ _ _).trans h.kg.output, by rw [set_size]; exact h.kg.size, fun k hk hn => (set_other wr b j k v (by omega)).trans (h.kg.block k hk hn)⟩, h.lt, h.src⟩
/-- some parts are read -/
structure NB (w wr : World) (g g2 g3 gp n k : Nat) (m : Ml) (ro : Option Addr) (rn rc : Nat) (Z : List Int) (Q : List Pt) (Y : List (List Int)) : Prop where
  ni : NI w wr g g2 g3 ro rn rc Z m
  pr : PR wr (some ⟨gp, 0, none⟩) n n Q
  ps : ∀ j, j < k → Src wr (Q.getD j pt0).vo (Q.getD j pt0).vn (Q.getD j pt0).vc (Y.getD j []) ∧ (∀ b, blk (Q.getD j pt0).vo = some b → gp < b ∧ b < wr.heap.size) ∧ 0 ≤ (Q.getD j pt0).cart
  pos : w.heap.size ≤ gp ∧ g2 < gp ∧ g3 < gp
  len : Y.length = k
variable {gp n k : Nat} {Q : List Pt} {Y : List (List Int)}
theorem NB.below (h : NB w wr g g2 g3 gp n k m ro rn rc Z Q Y) (b : Below wr.heap.size wr w2) : NB w w2 g g2 g3 gp n k m ro rn rc Z Q Y :=
  ⟨h.ni.below b, h.pr.keep (fun j e => b.block j (h.pr.lt j e)), fun j hj => ⟨(h.ps j hj).1.below b, fun x e => ⟨((h.ps j hj).2.1 x e).1, Nat.lt_of_lt_of_le ((h.ps j hj).2.1 x e).2 b.size⟩, (h.ps j hj).2.2⟩, h.pos, h.len⟩
theorem NB.kg {i : Nat} (h : NB w wr g g2 g3 gp n k m ro rn rc Z Q Y) (M : Mv wr w2 g ro rn i Z) : ∃ so sn sc, NB w w2 g g2 g3 gp n k m so sn sc (Z.drop i) Q Y := by
  obtain ⟨so, sn, sc, N⟩ := h.ni.num M
  obtain ⟨-, -, -, -, K⟩ := M
  obtain ⟨p1, p2, p3, p4⟩ := h.ni.lt
  have hp := h.pos
  refine ⟨so, sn, sc, N, h.pr.keep (fun j e => K.block j (h.pr.lt j e) (by have : gp = j := Option.some.inj e; omega)), fun j hj => ⟨?_, fun x e => ⟨((h.ps j hj).2.1 x e).1, Nat.lt_of_lt_of_le ((h.ps j hj).2.1 x e).2 K.size⟩, (h.ps j hj).2.2⟩, h.pos, h.len⟩
  exact (h.ps j hj).1.keep0 (fun _ x e => K.block x ((h.ps j hj).2.1 x e).2 (by have := ((h.ps j hj).2.1 x e).1; omega))
theorem getD_set_ne (Q : List Pt) (i j : Nat) (e : Pt) (h : i ≠ j) : (Q.set i e).getD j pt0 = Q.getD j pt0 := by
  rw [List.getD_eq_getElem?_getD, List.getD_eq_getElem?_getD, List.getElem?_set_ne h]
theorem getD_set_eq (Q : List Pt) (i : Nat) (e : Pt) (h : i < Q.length) : (Q.set i e).getD i pt0 = e := by
  rw [List.getD_eq_getElem?_getD, List.getElem?_set_self h]; rfl
theorem NB.put (h : NB w wr g g2 g3 gp n k m ro rn rc Z Q Y) (hk : k < n) (f : Nat) (hf : f < 2) (v : Value) (e2 : Pt) (he : (PC (Q.getD k pt0)).toList.set f v = (PC e2).toList) : NB w (wr.setCell ⟨gp, k * 2 + f, none⟩ v) g g2 g3 gp n k m ro rn rc Z (Q.set k e2) Y := by
  have hp := h.pos
  refine ⟨h.ni.at gp _ hp.1 (by omega) (by omega), h.pr.set k f hk hf v e2 he, fun j hj => ?_, h.pos, h.len⟩
  rw [getD_set_ne Q k j e2 (by omega)]
  refine ⟨(h.ps j hj).1.keep0 (fun _ x e => set_other wr gp _ x v (by have := ((h.ps j hj).2.1 x e).1; omega)), fun x e => ?_, (h.ps j hj).2.2⟩
  rw [set_size]
  exact (h.ps j hj).2.1 x e
theorem Y_at (Y : List (List Int)) (y : List Int) : (Y ++ [y]).getD Y.length [] = y := by simp
theorem Y_lt (Y : List (List Int)) (y : List Int) (j : Nat) (h : j < Y.length) : (Y ++ [y]).getD j [] = Y.getD j [] := by
  rw [List.getD_eq_getElem?_getD, List.getD_eq_getElem?_getD, List.getElem?_append_left h]
/-- the part is whole -/
theorem NB.next {y : List Int} (h : NB w wr g g2 g3 gp n k m ro rn rc Z Q Y) (S : Src wr (Q.getD k pt0).vo (Q.getD k pt0).vn (Q.getD k pt0).vc y) (hb : ∀ b, blk (Q.getD k pt0).vo = some b → gp < b ∧ b < wr.heap.size) (hc : 0 ≤ (Q.getD k pt0).cart) : NB w wr g g2 g3 gp n (k + 1) m ro rn rc Z Q (Y ++ [y]) := by
  have hl := h.len
  refine ⟨h.ni, h.pr, fun j hj => ?_, h.pos, by simp [hl]⟩
  by_cases e : j = k
  · subst e
    have : (Y ++ [y]).getD j [] = y := by rw [← hl]; exact Y_at Y y
    rw [this]
    exact ⟨S, hb, hc⟩
  · rw [Y_lt Y y j (by omega)]
    exact h.ps j (by omega)
def ahead (A : List Prt) : Option (List Prt × List Int) → Option (List Prt × List Int)
  | none => none
  | some (P, R) => some (A ++ P, R)
theorem pParts_bad1 {i : Nat} {Z : List Int} (h : nmE Z 63 ≠ 0) : pParts (i + 1) Z = none := by unfold pParts pNum; rw [if_neg h]
theorem pParts_bad2 {i : Nat} {Z : List Int} (h : nmE Z 63 = 0) (h2 : pcE (Z.drop (nmK Z)) (Z.drop (nmK Z)).length ≠ 0) : pParts (i + 1) Z = none := by
  unfold pParts pNum
  rw [if_pos h]
  simp only [pFrm]
  rw [if_neg h2]
theorem pParts_ok {i : Nat} {Z Z1 : List Int} (h : nmE Z 63 = 0) (hz : Z.drop (nmK Z) = Z1) (h2 : pcE Z1 Z1.length = 0) : pParts (i + 1) Z = ahead [(nmV Z, (Z1.drop (nmK Z1)).take (nmV Z1))] (pParts i (Z1.drop (nmK Z1 + nmV Z1))) := by
  rw [pParts]
  unfold pNum
  rw [if_pos h, hz]
  simp only [pFrm]
  rw [if_pos h2]
  simp only
  cases pParts i (Z1.drop (nmK Z1 + nmV Z1)) <;> rfl
theorem ahead_ahead (A B : List Prt) (o : Option (List Prt × List Int)) : ahead A (ahead B o) = ahead (A ++ B) o := by cases o <;> simp [ahead]
/-- at the loop's head -/
def NL (w wr : World) (g g2 g3 gp n k : Nat) (m : Ml) (Z0 : List Int) : Prop := ∃ ro rn rc Z Q Y, NB w wr g g2 g3 gp n k m ro rn rc Z Q Y ∧ pParts n Z0 = ahead (ptsOf Q Y k) (pParts (n - k) Z)
theorem ptsOf_same (Q Q' : List Pt) (Y Y' : List (List Int)) (k : Nat) (h : ∀ j, j < k → Q.getD j pt0 = Q'.getD j pt0 ∧ Y.getD j [] = Y'.getD j []) : ptsOf Q Y k = ptsOf Q' Y' k := by
  unfold ptsOf
  refine List.map_congr_left fun j hj => ?_
  have := h j (List.mem_range.1 hj)
  rw [this.1, this.2]
theorem PSrc.keep {ao : Option Addr} {n c : Nat} {X : List Pt} (h : PSrc w ao n c X) (hk : ∀ k, blk ao = some k → w'.heap[k]? = w.heap[k]?) : PSrc w' ao n c X :=
  ⟨h.1, h.2, fun ad ha t ht => by
    have e1 : blk ao = some (ad.add (t * 2)).block := by rw [ha]; exact congrArg some (block_of_add ad (t * 2)).symm
    have e2 : blk ao = some ((ad.add (t * 2)).add 1).block := by rw [e1]; exact congrArg some (block_of_add _ 1).symm
    have A := h.3 ad ha t ht
    exact ⟨(World.cell?_of_block (hk _ e1)).trans A.c0, (World.cell?_of_block (hk _ e2)).trans A.c1⟩, h.4⟩
/-- the mail that was read, in memory -/
structure MlIs (n0 : Nat) (w' : World) (p : Pm) (a : Ml) (X : List Pt) (Y : List (List Int)) : Prop where
  nums : a.kind = (p.kind : Int) ∧ a.fr = (p.fr : Int) ∧ a.to_ = (p.to_ : Int) ∧ a.lo = (p.lo : Int) ∧ a.hi = (p.hi : Int) ∧ a.pn = p.parts.length
  src : PSrc w' a.po a.pn a.pc X
  ps : PS w' a.pn X Y
  pts : ptsOf X Y a.pn = p.parts
  carts : ∀ k, k < a.pn → 0 ≤ (X.getD k pt0).cart
  new : ∀ b, blk a.po = some b → n0 ≤ b ∧ b < w'.heap.size
  newB : ∀ k, k < a.pn → ∀ b, blk (X.getD k pt0).vo = some b → n0 ≤ b ∧ b < w'.heap.size
theorem MlIs.keep {n0 : Nat} {p : Pm} {a : Ml} {X : List Pt} {Y : List (List Int)} (h : MlIs n0 w p a X Y) (hs : w.heap.size ≤ w'.heap.size) (hk : ∀ k, n0 ≤ k → k < w.heap.size → w'.heap[k]? = w.heap[k]?) : MlIs n0 w' p a X Y :=
  ⟨h.nums, h.src.keep (fun k e => hk k (h.new k e).1 (h.new k e).2), fun k hk2 => (h.ps k hk2).keep0 (fun _ b e => hk b (h.newB k hk2 b e).1 (h.newB k hk2 b e).2), h.pts, h.carts, fun b e => ⟨(h.new b e).1, Nat.lt_of_lt_of_le (h.new b e).2 hs⟩, fun k hk2 b e => ⟨(h.newB k hk2 b e).1, Nat.lt_of_lt_of_le (h.newB k hk2 b e).2 hs⟩⟩
theorem Oc.take {Z : List Int} (h : Oc Z) (b : Nat) : Oc (Z.take b) := fun t => by
  by_cases ht : t < b
  · have := h t
    simp only [List.getD, List.getElem?_take, if_pos ht] at this ⊢
    exact this
  · simp [List.getD, List.getElem?_take, ht]
theorem BR.srcO {po : Option Addr} {n c : Nat} {Y : List Int} (h : BR w po n c Y) (ho : Oc Y) : Src w po n c Y := ⟨h.bs.1, h.bs.2, h.bs.3, ho⟩
/-- all parts are read: the mail is what is answered -/
theorem NB.all {a b c d e : Nat} {m' : Ml} (h : NB w wr g g2 g3 gp n n m ro rn rc Z Q Y) (hm : m = ⟨(a : Int), (b : Int), (c : Int), (d : Int), (e : Int), some ⟨gp, 0, none⟩, n, n⟩) (h64 : n ≤ 64) : MlIs w.heap.size (wr.setRow g2 (MC m')) ⟨a, b, c, d, e, ptsOf Q Y n⟩ m Q Y := by
  have hp := h.pos
  have hlt := h.ni.lt
  have h3 := h.ni.b3.lt
  have M1 : MlIs w.heap.size wr ⟨a, b, c, d, e, ptsOf Q Y n⟩ m Q Y := by
    subst hm
    exact ⟨⟨rfl, rfl, rfl, rfl, rfl, (ptsOf_len Q Y n).symm⟩, h.pr.src (by show n ≤ _; omega), fun k hk => (h.ps k hk).1, rfl, fun k hk => (h.ps k hk).2.2, fun x e => ⟨by have : gp = x := Option.some.inj e; omega, h.pr.lt x e⟩, fun k hk x e => ⟨by have := ((h.ps k hk).2.1 x e).1; omega, ((h.ps k hk).2.1 x e).2⟩⟩
  refine ⟨M1.nums, M1.src.keep (fun x e => setRow_other _ _ _ _ ?_), fun k hk => (M1.ps k hk).keep0 (fun _ x e => setRow_other _ _ _ _ ?_), M1.pts, M1.carts, fun x e => ⟨(M1.new x e).1, ?_⟩, fun k hk x e => ⟨(M1.newB k hk x e).1, ?_⟩⟩
  · have hx : blk (some ⟨gp, 0, none⟩) = some x := by rw [hm] at e; exact e
    have : gp = x := Option.some.inj hx
    omega
  · have hk2 : k < n := by rw [hm] at hk; exact hk
    have := ((h.ps k hk2).2.1 x e).1
    omega
  · simpa [World.setRow] using (M1.new x e).2
  · simpa [World.setRow] using (M1.newB k hk x e).2
theorem NI.row {m' : Ml} (h : NI w wr g g2 g3 ro rn rc Z m) : RL (wr.setRow g2 (MC m')) g ro rn rc Z ∧ Kg w (wr.setRow g2 (MC m')) g := by
  obtain ⟨p1, p2, p3, p4⟩ := h.lt
  exact ⟨h.rl.keep0 (setRow_other _ _ _ _ (by omega)) (fun h0 k e => setRow_other _ _ _ _ (by have := h.src h0 k e; omega)), ⟨h.kg.os, h.kg.tape, h.kg.output, by simpa [World.setRow] using h.kg.size, fun k hk hn => (setRow_other _ _ _ _ (by omega)).trans (h.kg.block k hk hn)⟩⟩
/-- what next leaves -/
def NxP (w : World) (g : Nat) (Z : List Int) (r : Ending) (w' : World) : Prop :=
  (∃ p R a X Y so sn sc, pMail Z = some (p, R) ∧ r = .returned (MV a) ∧ MlIs w.heap.size w' p a X Y ∧ RL w' g so sn sc R ∧ Kg w w' g) ∨ (pMail Z = none ∧ r = .panicked (ups g) ∧ ∃ e, e ≠ 0 ∧ Rdr w' g none 0 0 e false ∧ Kg w w' g)
set_option maxRecDepth 100000 in
set_option maxHeartbeats 4000000 in
theorem next_any (ro : Option Addr) (rn rc : Nat) (Z : List Int) (w : World) (R : RL w g ro rn rc Z) (hr : rn ≠ 0 → ∀ k, blk ro = some k → k < w.heap.size) : Calls Try.prog 32 #[ptr g] w fun r w' => NxP w g Z r w' := by
  obtain ⟨w0, hw0⟩ : ∃ w0, w.alloc (.cells (MC ⟨0, 0, 0, 0, 0, none, 0, 0⟩) 24) = w0 := ⟨_, rfl⟩
  obtain ⟨g2, hg2⟩ : ∃ g2, w.heap.size = g2 := ⟨_, rfl⟩
  obtain ⟨w1, hw1⟩ : ∃ w1, w0.alloc (.cells (MC ⟨0, 0, 0, 0, 0, none, 0, 0⟩) 24) = w1 := ⟨_, rfl⟩
  obtain ⟨g3, hg3⟩ : ∃ g3, w0.heap.size = g3 := ⟨_, rfl⟩
  have X2 := bx_new w ⟨0, 0, 0, 0, 0, none, 0, 0⟩ hw0 hg2
  have X3 := bx_new w0 ⟨0, 0, 0, 0, 0, none, 0, 0⟩ hw1 hg3
  have hb1 := X2.bel.trans (X3.bel.mono X2.bel.size)
  have HI0 : Hid (NI w w1 g g2 g3 ro rn rc Z ⟨0, 0, 0, 0, 0, none, 0, 0⟩) := ⟨R.kg_below hb1, X2.box.below X3.bel, X3.box, Kg.of_below hb1, ⟨R.r.lt, by omega, by have := X2.bel.size; omega, by have := X2.box.lt; omega⟩, hr⟩
  have HQ0 : Hid (pMail Z = pm1 Z) := pMail_pm Z
  clear X2 X3 hb1 R hr
  go_enter Try.func32, Try.ntmps32
  by_cases hbad0 : nmE Z 6 ≠ 0
  · have HC := hide (num_bad HI0.out.rl rfl hbad0)
    have HN : Hid (pMail Z = none) := by
      show _ = _
      rw [HQ0.out]
      unfold pm1 pNum
      rw [if_neg hbad0]
    have HNZ0 := hide hbad0
    clear hbad0
    go_wp2_with fail
    refine HC.out.mono ?_
    rintro e we ⟨rfl, hG⟩
    have HE : Hid (NxP w g Z (.panicked (ups g)) we) := Or.inr ⟨HN.out, rfl, _, HNZ0.out, hG.1, HI0.out.kg.trans hG.2⟩
    clear hG
    go_wp2_with fail
    exact ⟨rfl, HE.out⟩
  have hok0 : nmE Z 6 = 0 := by simpa using hbad0
  obtain ⟨Z1, hZ1⟩ : ∃ Z1, Z.drop (nmK Z) = Z1 := ⟨_, rfl⟩
  have HQ1 : Hid (pMail Z = pm2 (nmV Z) Z1) := by
    show _ = _
    rw [HQ0.out]
    unfold pm1 pNum
    rw [if_pos hok0, hZ1]
  have HC := hide (Num_ok HI0.out.rl hok0)
  clear hbad0 hok0
  go_wp2_with fail
  refine HC.out.mono ?_
  rintro e w2 ⟨rfl, M⟩
  obtain ⟨so1, sn1, sc1, I0⟩ := HI0.out.num M
  rw [hZ1] at I0
  have y := I0.b3.c0
  have z := I0.b3.z 0
  simp only at y
  have I2 := I0.store (m' := ⟨(nmV Z : Int), 0, 0, 0, 0, none, 0, 0⟩) 0 (.int .i64 (nmV Z : Int)) rfl
  obtain ⟨v1, hv1⟩ : ∃ v1, w2.setCell ⟨g3, 0, none⟩ (.int .i64 (nmV Z : Int)) = v1 := ⟨_, rfl⟩
  rw [hv1] at I2
  have HI1 := hide I2
  clear M I0 I2 HC HI0 HQ0 hZ1
  by_cases hbad1 : nmE Z1 15 ≠ 0
  · have HC := hide (num_bad HI1.out.rl rfl hbad1)
    have HN : Hid (pMail Z = none) := by
      show _ = _
      rw [HQ1.out]
      unfold pm2 pNum
      rw [if_neg hbad1]
    have HNZ1 := hide hbad1
    clear hbad1
    go_wp2_with fail
    refine HC.out.mono ?_
    rintro e we ⟨rfl, hG⟩
    have HE : Hid (NxP w g Z (.panicked (ups g)) we) := Or.inr ⟨HN.out, rfl, _, HNZ1.out, hG.1, HI1.out.kg.trans hG.2⟩
    clear hG
    go_wp2_with fail
    exact ⟨rfl, HE.out⟩
  have hok1 : nmE Z1 15 = 0 := by simpa using hbad1
  obtain ⟨Z2, hZ2⟩ : ∃ Z2, Z1.drop (nmK Z1) = Z2 := ⟨_, rfl⟩
  have HQ2 : Hid (pMail Z = pm3 (nmV Z) (nmV Z1) Z2) := by
    show _ = _
    rw [HQ1.out]
    unfold pm2 pNum
    rw [if_pos hok1, hZ2]
  have HC := hide (Num_ok HI1.out.rl hok1)
  clear hbad1 hok1
  go_wp2_with fail
  refine HC.out.mono ?_
  rintro e w3 ⟨rfl, M⟩
  obtain ⟨so2, sn2, sc2, I0⟩ := HI1.out.num M
  rw [hZ2] at I0
  have y := I0.b3.c1
  have z := I0.b3.z 1
  simp only at y
  have I2 := I0.store (m' := ⟨(nmV Z : Int), (nmV Z1 : Int), 0, 0, 0, none, 0, 0⟩) 1 (.int .i64 (nmV Z1 : Int)) rfl
  obtain ⟨v2, hv2⟩ : ∃ v2, w3.setCell ⟨g3, 1, none⟩ (.int .i64 (nmV Z1 : Int)) = v2 := ⟨_, rfl⟩
  rw [hv2] at I2
  have HI2 := hide I2
  clear M I0 I2 HC HI1 HQ1 hZ2
  by_cases hbad2 : nmE Z2 15 ≠ 0
  · have HC := hide (num_bad HI2.out.rl rfl hbad2)
    have HN : Hid (pMail Z = none) := by
      show _ = _
      rw [HQ2.out]
      unfold pm3 pNum
      rw [if_neg hbad2]
    have HNZ2 := hide hbad2
    clear hbad2
    go_wp2_with fail
    refine HC.out.mono ?_
    rintro e we ⟨rfl, hG⟩
    have HE : Hid (NxP w g Z (.panicked (ups g)) we) := Or.inr ⟨HN.out, rfl, _, HNZ2.out, hG.1, HI2.out.kg.trans hG.2⟩
    clear hG
    go_wp2_with fail
    exact ⟨rfl, HE.out⟩
  have hok2 : nmE Z2 15 = 0 := by simpa using hbad2
  obtain ⟨Z3, hZ3⟩ : ∃ Z3, Z2.drop (nmK Z2) = Z3 := ⟨_, rfl⟩
  have HQ3 : Hid (pMail Z = pm4 (nmV Z) (nmV Z1) (nmV Z2) Z3) := by
    show _ = _
    rw [HQ2.out]
    unfold pm3 pNum
    rw [if_pos hok2, hZ3]
  have HC := hide (Num_ok HI2.out.rl hok2)
  clear hbad2 hok2
  go_wp2_with fail
  refine HC.out.mono ?_
  rintro e w4 ⟨rfl, M⟩
  obtain ⟨so3, sn3, sc3, I0⟩ := HI2.out.num M
  rw [hZ3] at I0
  have y := I0.b3.c2
  have z := I0.b3.z 2
  simp only at y
  have I2 := I0.store (m' := ⟨(nmV Z : Int), (nmV Z1 : Int), (nmV Z2 : Int), 0, 0, none, 0, 0⟩) 2 (.int .i64 (nmV Z2 : Int)) rfl
  obtain ⟨v3, hv3⟩ : ∃ v3, w4.setCell ⟨g3, 2, none⟩ (.int .i64 (nmV Z2 : Int)) = v3 := ⟨_, rfl⟩
  rw [hv3] at I2
  have HI3 := hide I2
  clear M I0 I2 HC HI2 HQ2 hZ3
  by_cases hbad3 : nmE Z3 4611686018427387904 ≠ 0
  · have HC := hide (num_bad HI3.out.rl rfl hbad3)
    have HN : Hid (pMail Z = none) := by
      show _ = _
      rw [HQ3.out]
      unfold pm4 pNum
      rw [if_neg hbad3]
    have HNZ3 := hide hbad3
    clear hbad3
    go_wp2_with fail
    refine HC.out.mono ?_
    rintro e we ⟨rfl, hG⟩
    have HE : Hid (NxP w g Z (.panicked (ups g)) we) := Or.inr ⟨HN.out, rfl, _, HNZ3.out, hG.1, HI3.out.kg.trans hG.2⟩
    clear hG
    go_wp2_with fail
    exact ⟨rfl, HE.out⟩
  have hok3 : nmE Z3 4611686018427387904 = 0 := by simpa using hbad3
  obtain ⟨Z4, hZ4⟩ : ∃ Z4, Z3.drop (nmK Z3) = Z4 := ⟨_, rfl⟩
  have HQ4 : Hid (pMail Z = pm5 (nmV Z) (nmV Z1) (nmV Z2) (nmV Z3) Z4) := by
    show _ = _
    rw [HQ3.out]
    unfold pm4 pNum
    rw [if_pos hok3, hZ4]
  have HC := hide (Num_ok HI3.out.rl hok3)
  clear hbad3 hok3
  go_wp2_with fail
  refine HC.out.mono ?_
  rintro e w5 ⟨rfl, M⟩
  obtain ⟨so4, sn4, sc4, I0⟩ := HI3.out.num M
  rw [hZ4] at I0
  have y := I0.b3.c3
  have z := I0.b3.z 3
  simp only at y
  have I2 := I0.store (m' := ⟨(nmV Z : Int), (nmV Z1 : Int), (nmV Z2 : Int), (nmV Z3 : Int), 0, none, 0, 0⟩) 3 (.int .i64 (nmV Z3 : Int)) rfl
  obtain ⟨v4, hv4⟩ : ∃ v4, w5.setCell ⟨g3, 3, none⟩ (.int .i64 (nmV Z3 : Int)) = v4 := ⟨_, rfl⟩
  rw [hv4] at I2
  have HI4 := hide I2
  clear M I0 I2 HC HI3 HQ3 hZ4
  by_cases hbad4 : nmE Z4 4611686018427387904 ≠ 0
  · have HC := hide (num_bad HI4.out.rl rfl hbad4)
    have HN : Hid (pMail Z = none) := by
      show _ = _
      rw [HQ4.out]
      unfold pm5 pNum
      rw [if_neg hbad4]
    have HNZ4 := hide hbad4
    clear hbad4
    go_wp2_with fail
    refine HC.out.mono ?_
    rintro e we ⟨rfl, hG⟩
    have HE : Hid (NxP w g Z (.panicked (ups g)) we) := Or.inr ⟨HN.out, rfl, _, HNZ4.out, hG.1, HI4.out.kg.trans hG.2⟩
    clear hG
    go_wp2_with fail
    exact ⟨rfl, HE.out⟩
  have hok4 : nmE Z4 4611686018427387904 = 0 := by simpa using hbad4
  obtain ⟨Z5, hZ5⟩ : ∃ Z5, Z4.drop (nmK Z4) = Z5 := ⟨_, rfl⟩
  have HQ5 : Hid (pMail Z = pm6 (nmV Z) (nmV Z1) (nmV Z2) (nmV Z3) (nmV Z4) Z5) := by
    show _ = _
    rw [HQ4.out]
    unfold pm5 pNum
    rw [if_pos hok4, hZ5]
  have HC := hide (Num_ok HI4.out.rl hok4)
  clear hbad4 hok4
  go_wp2_with fail
  refine HC.out.mono ?_
  rintro e w6 ⟨rfl, M⟩
  obtain ⟨so5, sn5, sc5, I0⟩ := HI4.out.num M
  rw [hZ5] at I0
  have y := I0.b3.c4
  have z := I0.b3.z 4
  simp only at y
  have I2 := I0.store (m' := ⟨(nmV Z : Int), (nmV Z1 : Int), (nmV Z2 : Int), (nmV Z3 : Int), (nmV Z4 : Int), none, 0, 0⟩) 4 (.int .i64 (nmV Z4 : Int)) rfl
  obtain ⟨v5, hv5⟩ : ∃ v5, w6.setCell ⟨g3, 4, none⟩ (.int .i64 (nmV Z4 : Int)) = v5 := ⟨_, rfl⟩
  rw [hv5] at I2
  have HI5 := hide I2
  clear M I0 I2 HC HI4 HQ4 hZ5
  by_cases hbad5 : nmE Z5 64 ≠ 0
  · have HC := hide (num_bad HI5.out.rl rfl hbad5)
    have HN : Hid (pMail Z = none) := by
      show _ = _
      rw [HQ5.out]
      unfold pm6 pNum
      rw [if_neg hbad5]
    have HNZ5 := hide hbad5
    have HNZ5 := hide hbad5
    clear hbad5
    go_wp2_with fail
    refine HC.out.mono ?_
    rintro e we ⟨rfl, hG⟩
    have HE : Hid (NxP w g Z (.panicked (ups g)) we) := Or.inr ⟨HN.out, rfl, _, HNZ5.out, hG.1, HI5.out.kg.trans hG.2⟩
    clear hG
    go_wp2_with fail
    exact ⟨rfl, HE.out⟩
  have hok5 : nmE Z5 64 = 0 := by simpa using hbad5
  obtain ⟨Z6, hZ6⟩ : ∃ Z6, Z5.drop (nmK Z5) = Z6 := ⟨_, rfl⟩
  obtain ⟨n, hn⟩ : ∃ n, nmV Z5 = n := ⟨_, rfl⟩
  have HQ6 : Hid (pMail Z = pm7 (nmV Z) (nmV Z1) (nmV Z2) (nmV Z3) (nmV Z4) n Z6) := by
    show _ = _
    rw [HQ5.out]
    unfold pm6 pNum
    rw [if_pos hok5, hZ6, hn]
  have HN64 : Hid (n ≤ 64) := by show _ ≤ _; have := (nm_ok hok5).2.1; omega
  have HC := hide (Num_ok HI5.out.rl hok5)
  rw [hn] at HC
  clear hbad5 hok5 hn
  go_wp2_with fail
  refine HC.out.mono ?_
  rintro e w7 ⟨rfl, M⟩
  obtain ⟨so6, sn6, sc6, I0⟩ := HI5.out.num M
  rw [hZ6] at I0
  obtain ⟨w8, hmk, P8, b8⟩ := madeRow w7 n HN64.out
  obtain ⟨gp, hgp⟩ : ∃ gp, w7.heap.size = gp := ⟨_, rfl⟩
  rw [hgp] at hmk P8
  have I1 := I0.below b8
  have y := I1.b3.c5
  have z := I1.b3.z 5
  simp only at y
  obtain ⟨m6, hm6⟩ : ∃ m6 : Ml, m6 = ⟨(nmV Z : Int), (nmV Z1 : Int), (nmV Z2 : Int), (nmV Z3 : Int), (nmV Z4 : Int), some ⟨gp, 0, none⟩, n, n⟩ := ⟨_, rfl⟩
  have I2 := I1.store (m' := m6) 5 (.slice (some ⟨gp, 0, none⟩) n n) (by rw [hm6]; rfl)
  obtain ⟨v6, hv6⟩ : ∃ v6, w8.setCell ⟨g3, 5, none⟩ (.slice (some ⟨gp, 0, none⟩) n n) = v6 := ⟨_, rfl⟩
  rw [hv6] at I2
  have x5 := I2.b3.c5
  rw [hm6] at x5
  simp only at x5
  have HNL0 : Hid (NL w v6 g g2 g3 gp n 0 m6 Z6) := by
    have hlt := I0.lt
    have h2 := I0.b2.lt
    have h3 := I0.b3.lt
    refine ⟨so6, sn6, sc6, Z6, List.replicate n pt0, [], ⟨I2, P8.keep fun k e => ?_, fun j hj => absurd hj (Nat.not_lt_zero j), ⟨by have := I0.kg.size; omega, by omega, by omega⟩, rfl⟩, ?_⟩
    · rw [← hv6]
      exact set_other w8 g3 5 k _ (by have : gp = k := Option.some.inj e; omega)
    · have e : ptsOf (List.replicate n pt0) [] 0 = [] := rfl
      rw [e, Nat.sub_zero]
      cases pParts n Z6 <;> rfl
  have HM6 := hide hm6
  clear M I0 I1 I2 HC HI5 HQ5 hZ6 P8 b8 hgp hm6
  go_wp2_with fail
  clear x5 y z
  go_loopw [27] (fun i wr => ∃ k : Nat, k ≤ n ∧ i = .int .i64 k ∧ Hid (NL w wr g g2 g3 gp n k m6 Z6)) (fun i _ => n - (intOf i).toNat)
  case atStart => exact ⟨0, Nat.zero_le _, rfl, HNL0⟩
  case round =>
    clear HNL0
    obtain ⟨k, hk, rfl, HL⟩ := hrel
    obtain ⟨so, sn, sc, Z', Q, Y, hNB, hE⟩ := HL.out
    have HE0 := hide hE
    have HB := hide (hNB.below (below_drew1 wr))
    have HBW := hide hNB
    by_cases hlt : k < n
    · have HLT := hide hlt
      have HK1 : Hid (wrap64 ((k : Int) + 1) = ((k + 1 : Nat) : Int)) := by show _ = _; have := HN64.out; rw [w64 (by omega) (by omega)]; rfl
      have x5 : wr.drew.cell? ⟨g3, 5, none⟩ = some (.slice (some ⟨gp, 0, none⟩) n n) := by have := HB.out.ni.b3.c5; rw [HM6.out] at this; exact this
      obtain ⟨j, hj⟩ : ∃ j, n - k = j + 1 := ⟨n - k - 1, by omega⟩
      have HJ : Hid (n - k = j + 1 ∧ n - (k + 1) = j) := ⟨hj, by omega⟩
      clear HL hNB hE hj
      by_cases hb1 : nmE Z' 63 ≠ 0
      · have HC := hide (num_bad HB.out.ni.rl rfl hb1)
        have HN : Hid (pMail Z = none) := by
          show _ = _
          rw [HQ6.out]
          unfold pm7
          rw [HE0.out, HJ.out.1, pParts_bad1 hb1]
          rfl
        have HNZ := hide hb1
        clear hb1
        go_wp2_with fail
        refine wp_region_held_drew (S := fun w => w.cell? ⟨g3, 5, none⟩ = some (.slice (some ⟨gp, 0, none⟩) n n)) (by kernel_rfl) (x5) (fun hHeld => ?_)
        refine wpAnyH_take (i := 0) (oi := { dst := some 30, op := Op.fieldAddr 24 (Operand.tmp 3) 5, type := 0, pos := "bytes.go:50", after := #[], guard := none }) (v := ?_) rfl (by kernel_rfl) (by kernel_rfl) (by kernel_rfl) (fun _ _ _ h => h) (Or.inl ⟨by rfl, ?_⟩) (by assumption) ?_
        rotate_left
        · (intro w hSw; (try dsimp only at hSw); go_simp); first | done | with_reducible rfl
        simp only [Act.put, List.setIfInBounds_toArray, List.set_cons_zero, List.set_cons_succ]
        refine wpAnyH_take (i := 1) (oi := { dst := some 31, op := Op.load 22 (Operand.tmp 30), type := 22, pos := "bytes.go:50", after := #[{ on := 0, ground := Ground.data }], guard := none }) (v := ?_) rfl (by kernel_rfl) (by kernel_rfl) (by kernel_rfl) (fun _ _ _ h => h) (Or.inl ⟨by rfl, ?_⟩) (by assumption) ?_
        rotate_left
        · (intro w hSw; (try dsimp only at hSw); go_simp); first | done | with_reducible rfl
        simp only [Act.put, List.setIfInBounds_toArray, List.set_cons_zero, List.set_cons_succ]
        refine wpAnyH_take (i := 2) (oi := { dst := some 32, op := Op.move (Operand.tmp 4), type := 3, pos := "bytes.go:50", after := #[], guard := none }) (v := ?_) rfl (by kernel_rfl) (by kernel_rfl) (by kernel_rfl) (fun _ _ _ h => h) (Or.inl ⟨by rfl, ?_⟩) (by assumption) ?_
        rotate_left
        · (intro w hSw; (try dsimp only at hSw); go_simp); first | done | with_reducible rfl
        simp only [Act.put, List.setIfInBounds_toArray, List.set_cons_zero, List.set_cons_succ]
        refine wpAnyH_take (i := 3) (oi := { dst := some 33, op := Op.move (Operand.tmp 0), type := 60, pos := "bytes.go:50", after := #[], guard := none }) (v := ?_) rfl (by kernel_rfl) (by kernel_rfl) (by kernel_rfl) (fun _ _ _ h => h) (Or.inl ⟨by rfl, ?_⟩) (by assumption) ?_
        rotate_left
        · (intro w hSw; (try dsimp only at hSw); go_simp); first | done | with_reducible rfl
        simp only [Act.put, List.setIfInBounds_toArray, List.set_cons_zero, List.set_cons_succ]
        refine wpAnyH_ready (rs := [4]) (by kernel_rfl) (by simp) ?_
        refine AllReadyH.cons rfl (fun K hK => ?_) ?_
        rotate_left
        · exact AllReadyH.nil
        go_simp
        go_wp2_with fail
        refine HC.out.mono ?_
        rintro r w2 ⟨rfl, hG⟩
        have HE : Hid (NxP w g Z (.panicked (ups g)) w2) := Or.inr ⟨HN.out, rfl, _, HNZ.out, hG.1, HB.out.ni.kg.trans hG.2⟩
        clear hG
        go_wp2_with fail
        exact ⟨rfl, HE.out⟩
      · have hok : nmE Z' 63 = 0 := by simpa using hb1
        have HC := hide (Num_ok HB.out.ni.rl hok)
        obtain ⟨Z1', hZ1'⟩ : ∃ Z1', Z'.drop (nmK Z') = Z1' := ⟨_, rfl⟩
        have HOK := hide hok
        have HZ1 := hide hZ1'
        clear hb1 hok
        go_wp2_with fail
        refine wp_region_held_drew (S := fun w => w.cell? ⟨g3, 5, none⟩ = some (.slice (some ⟨gp, 0, none⟩) n n)) (by kernel_rfl) (x5) (fun hHeld => ?_)
        refine wpAnyH_take (i := 0) (oi := { dst := some 30, op := Op.fieldAddr 24 (Operand.tmp 3) 5, type := 0, pos := "bytes.go:50", after := #[], guard := none }) (v := ?_) rfl (by kernel_rfl) (by kernel_rfl) (by kernel_rfl) (fun _ _ _ h => h) (Or.inl ⟨by rfl, ?_⟩) (by assumption) ?_
        rotate_left
        · (intro w hSw; (try dsimp only at hSw); go_simp); first | done | with_reducible rfl
        simp only [Act.put, List.setIfInBounds_toArray, List.set_cons_zero, List.set_cons_succ]
        refine wpAnyH_take (i := 1) (oi := { dst := some 31, op := Op.load 22 (Operand.tmp 30), type := 22, pos := "bytes.go:50", after := #[{ on := 0, ground := Ground.data }], guard := none }) (v := ?_) rfl (by kernel_rfl) (by kernel_rfl) (by kernel_rfl) (fun _ _ _ h => h) (Or.inl ⟨by rfl, ?_⟩) (by assumption) ?_
        rotate_left
        · (intro w hSw; (try dsimp only at hSw); go_simp); first | done | with_reducible rfl
        simp only [Act.put, List.setIfInBounds_toArray, List.set_cons_zero, List.set_cons_succ]
        refine wpAnyH_take (i := 2) (oi := { dst := some 32, op := Op.move (Operand.tmp 4), type := 3, pos := "bytes.go:50", after := #[], guard := none }) (v := ?_) rfl (by kernel_rfl) (by kernel_rfl) (by kernel_rfl) (fun _ _ _ h => h) (Or.inl ⟨by rfl, ?_⟩) (by assumption) ?_
        rotate_left
        · (intro w hSw; (try dsimp only at hSw); go_simp); first | done | with_reducible rfl
        simp only [Act.put, List.setIfInBounds_toArray, List.set_cons_zero, List.set_cons_succ]
        refine wpAnyH_take (i := 3) (oi := { dst := some 33, op := Op.move (Operand.tmp 0), type := 60, pos := "bytes.go:50", after := #[], guard := none }) (v := ?_) rfl (by kernel_rfl) (by kernel_rfl) (by kernel_rfl) (fun _ _ _ h => h) (Or.inl ⟨by rfl, ?_⟩) (by assumption) ?_
        rotate_left
        · (intro w hSw; (try dsimp only at hSw); go_simp); first | done | with_reducible rfl
        simp only [Act.put, List.setIfInBounds_toArray, List.set_cons_zero, List.set_cons_succ]
        refine wpAnyH_ready (rs := [4]) (by kernel_rfl) (by simp) ?_
        refine AllReadyH.cons rfl (fun K hK => ?_) ?_
        rotate_left
        · exact AllReadyH.nil
        go_simp
        go_wp2_with fail
        refine HC.out.mono ?_
        rintro r w2 ⟨rfl, M⟩
        obtain ⟨so1, sn1, sc1, N1⟩ := HB.out.kg M
        rw [hZ1'] at N1
        have x5' : w2.cell? ⟨g3, 5, none⟩ = some (.slice (some ⟨gp, 0, none⟩) n n) := by have := N1.ni.b3.c5; rw [HM6.out] at this; exact this
        refine hK.out _ _ x5' (fun hHeld => ?_)
        clear hK K
        refine wpAnyH_take (i := 5) (oi := { dst := some 35, op := Op.indexAddr 22 (Operand.tmp 31) (Operand.tmp 32), type := 0, pos := "bytes.go:50", after := #[{ on := 1, ground := Ground.data }, { on := 2, ground := Ground.data }, { on := 0, ground := Ground.phase }, { on := 1, ground := Ground.phase }, { on := 2, ground := Ground.phase }, { on := 3, ground := Ground.phase }, { on := 4, ground := Ground.phase }], guard := none }) (v := ?_) rfl (by kernel_rfl) (by kernel_rfl) (by kernel_rfl) (fun _ _ _ h => h) (Or.inl ⟨by rfl, ?_⟩) (by assumption) ?_
        rotate_left
        · (intro w hSw; (try dsimp only at hSw); go_simp); first | done | with_reducible rfl
        simp only [Act.put, List.setIfInBounds_toArray, List.set_cons_zero, List.set_cons_succ]
        refine wpAnyH_take (i := 6) (oi := { dst := some 36, op := Op.fieldAddr 46 (Operand.tmp 35) 0, type := 0, pos := "bytes.go:50", after := #[{ on := 5, ground := Ground.data }, { on := 0, ground := Ground.phase }, { on := 1, ground := Ground.phase }, { on := 2, ground := Ground.phase }, { on := 3, ground := Ground.phase }, { on := 4, ground := Ground.phase }], guard := none }) (v := ?_) rfl (by kernel_rfl) (by kernel_rfl) (by kernel_rfl) (fun _ _ _ h => h) (Or.inl ⟨by rfl, ?_⟩) (by assumption) ?_
        rotate_left
        · (intro w hSw; (try dsimp only at hSw); go_simp); first | done | with_reducible rfl
        simp only [Act.put, List.setIfInBounds_toArray, List.set_cons_zero, List.set_cons_succ]
        refine wpAnyH_ready (rs := [7]) (by kernel_rfl) (by simp) ?_
        refine AllReadyH.cons rfl (fun K hK => ?_) ?_
        rotate_left
        · exact AllReadyH.nil
        obtain ⟨b0, hb0, A0, F0⟩ := N1.pr.at k HLT.out
        obtain rfl : gp = b0 := by simpa using hb0
        have y0 := A0.c0
        have z0 := F0 (k * 2)
        have N2 : NB w (w2.setCell ⟨gp, k * 2, none⟩ (.int .i64 (nmV Z' : Int))) g g2 g3 gp n k m6 so1 sn1 sc1 Z1' (Q.set k ⟨(nmV Z' : Int), (Q.getD k pt0).vo, (Q.getD k pt0).vn, (Q.getD k pt0).vc⟩) Y := N1.put HLT.out 0 (by decide) _ _ rfl
        obtain ⟨w3, hw3⟩ : ∃ w3, w2.setCell ⟨gp, k * 2, none⟩ (.int .i64 (nmV Z' : Int)) = w3 := ⟨_, rfl⟩
        rw [hw3] at N2
        have x6 : w3.cell? ⟨g3, 5, none⟩ = some (.slice (some ⟨gp, 0, none⟩) n n) := by have := N2.ni.b3.c5; rw [HM6.out] at this; exact this
        have HQl : Hid (Q.length = n) := N1.pr.len
        go_simp
        refine hK.out _ _ x6 (fun hHeld => ?_)
        clear hK K
        refine wpAnyH_done (by kernel_rfl) ?_ _
        clear hHeld
        have HB2 := hide (N2.below (below_drew1 w3))
        have x7 : w3.drew.cell? ⟨g3, 5, none⟩ = some (.slice (some ⟨gp, 0, none⟩) n n) := x6
        have hlen : Z1'.length = sn1 := N2.ni.rl.len
        have HLf := hide (left_any HB2.out.ni.rl.r)
        clear x6 x5 x5' N1 N2 M HB HC A0 F0 hw3 y0 z0 hZ1'
        by_cases hb2 : pcE Z1' (sn1 : Int) ≠ 0
        · have HC := hide (frame_bad HB2.out.ni.rl rfl hb2)
          have HN : Hid (pMail Z = none) := by
            show _ = _
            rw [HQ6.out]
            unfold pm7
            rw [HE0.out, HJ.out.1, pParts_bad2 HOK.out (by rw [HZ1.out, hlen]; exact hb2)]
            rfl
          have HNZ := hide hb2
          clear hb2
          go_wp2_with fail
          refine wp_region_held_drew (S := fun w => w.cell? ⟨g3, 5, none⟩ = some (.slice (some ⟨gp, 0, none⟩) n n)) (by kernel_rfl) (x7) (fun hHeld => ?_)
          refine wpAnyH_take (i := 0) (oi := { dst := some 37, op := Op.fieldAddr 24 (Operand.tmp 3) 5, type := 0, pos := "bytes.go:51", after := #[], guard := none }) (v := ?_) rfl (by kernel_rfl) (by kernel_rfl) (by kernel_rfl) (fun _ _ _ h => h) (Or.inl ⟨by rfl, ?_⟩) (by assumption) ?_
          rotate_left
          · (intro w hSw; (try dsimp only at hSw); go_simp); first | done | with_reducible rfl
          simp only [Act.put, List.setIfInBounds_toArray, List.set_cons_zero, List.set_cons_succ]
          refine wpAnyH_take (i := 1) (oi := { dst := some 38, op := Op.load 22 (Operand.tmp 37), type := 22, pos := "bytes.go:51", after := #[{ on := 0, ground := Ground.data }], guard := none }) (v := ?_) rfl (by kernel_rfl) (by kernel_rfl) (by kernel_rfl) (fun _ _ _ h => h) (Or.inl ⟨by rfl, ?_⟩) (by assumption) ?_
          rotate_left
          · (intro w hSw; (try dsimp only at hSw); go_simp); first | done | with_reducible rfl
          simp only [Act.put, List.setIfInBounds_toArray, List.set_cons_zero, List.set_cons_succ]
          refine wpAnyH_take (i := 2) (oi := { dst := some 39, op := Op.move (Operand.tmp 4), type := 3, pos := "bytes.go:51", after := #[], guard := none }) (v := ?_) rfl (by kernel_rfl) (by kernel_rfl) (by kernel_rfl) (fun _ _ _ h => h) (Or.inl ⟨by rfl, ?_⟩) (by assumption) ?_
          rotate_left
          · (intro w hSw; (try dsimp only at hSw); go_simp); first | done | with_reducible rfl
          simp only [Act.put, List.setIfInBounds_toArray, List.set_cons_zero, List.set_cons_succ]
          refine wpAnyH_take (i := 3) (oi := { dst := some 40, op := Op.move (Operand.tmp 0), type := 60, pos := "bytes.go:51", after := #[], guard := none }) (v := ?_) rfl (by kernel_rfl) (by kernel_rfl) (by kernel_rfl) (fun _ _ _ h => h) (Or.inl ⟨by rfl, ?_⟩) (by assumption) ?_
          rotate_left
          · (intro w hSw; (try dsimp only at hSw); go_simp); first | done | with_reducible rfl
          simp only [Act.put, List.setIfInBounds_toArray, List.set_cons_zero, List.set_cons_succ]
          refine wpAnyH_take (i := 4) (oi := { dst := some 41, op := Op.move (Operand.tmp 0), type := 60, pos := "bytes.go:51", after := #[], guard := none }) (v := ?_) rfl (by kernel_rfl) (by kernel_rfl) (by kernel_rfl) (fun _ _ _ h => h) (Or.inl ⟨by rfl, ?_⟩) (by assumption) ?_
          rotate_left
          · (intro w hSw; (try dsimp only at hSw); go_simp); first | done | with_reducible rfl
          simp only [Act.put, List.setIfInBounds_toArray, List.set_cons_zero, List.set_cons_succ]
          refine wpAnyH_ready (rs := [5]) (by kernel_rfl) (by simp) ?_
          refine AllReadyH.cons rfl (fun K hK => ?_) ?_
          rotate_left
          · exact AllReadyH.nil
          go_simp
          go_wp2_with fail
          refine HLf.out.mono ?_
          rintro r w4 ⟨rfl, rfl⟩
          refine hK.out _ _ x7 (fun hHeld => ?_)
          clear hK K
          refine wpAnyH_ready (rs := [6]) (by kernel_rfl) (by simp) ?_
          refine AllReadyH.cons rfl (fun K hK => ?_) ?_
          rotate_left
          · exact AllReadyH.nil
          go_simp
          go_wp2_with fail
          refine HC.out.mono ?_
          rintro r w5 ⟨rfl, hG⟩
          have HE : Hid (NxP w g Z (.panicked (ups g)) w5) := Or.inr ⟨HN.out, rfl, _, HNZ.out, hG.1, HB2.out.ni.kg.trans hG.2⟩
          clear hG
          go_wp2_with fail
          exact ⟨rfl, HE.out⟩
        · have hok2 : pcE Z1' (sn1 : Int) = 0 := by simpa using hb2
          have HC := hide (frame_ok HB2.out.ni.rl hok2)
          have HP : Hid (pParts (j + 1) Z' = ahead [(nmV Z', (Z1'.drop (nmK Z1')).take (nmV Z1'))] (pParts j (Z1'.drop (nmK Z1' + nmV Z1')))) := pParts_ok HOK.out HZ1.out (by rw [hlen]; exact hok2)
          clear hb2 hok2
          go_wp2_with fail
          refine wp_region_held_drew (S := fun w => w.cell? ⟨g3, 5, none⟩ = some (.slice (some ⟨gp, 0, none⟩) n n)) (by kernel_rfl) (x7) (fun hHeld => ?_)
          refine wpAnyH_take (i := 0) (oi := { dst := some 37, op := Op.fieldAddr 24 (Operand.tmp 3) 5, type := 0, pos := "bytes.go:51", after := #[], guard := none }) (v := ?_) rfl (by kernel_rfl) (by kernel_rfl) (by kernel_rfl) (fun _ _ _ h => h) (Or.inl ⟨by rfl, ?_⟩) (by assumption) ?_
          rotate_left
          · (intro w hSw; (try dsimp only at hSw); go_simp); first | done | with_reducible rfl
          simp only [Act.put, List.setIfInBounds_toArray, List.set_cons_zero, List.set_cons_succ]
          refine wpAnyH_take (i := 1) (oi := { dst := some 38, op := Op.load 22 (Operand.tmp 37), type := 22, pos := "bytes.go:51", after := #[{ on := 0, ground := Ground.data }], guard := none }) (v := ?_) rfl (by kernel_rfl) (by kernel_rfl) (by kernel_rfl) (fun _ _ _ h => h) (Or.inl ⟨by rfl, ?_⟩) (by assumption) ?_
          rotate_left
          · (intro w hSw; (try dsimp only at hSw); go_simp); first | done | with_reducible rfl
          simp only [Act.put, List.setIfInBounds_toArray, List.set_cons_zero, List.set_cons_succ]
          refine wpAnyH_take (i := 2) (oi := { dst := some 39, op := Op.move (Operand.tmp 4), type := 3, pos := "bytes.go:51", after := #[], guard := none }) (v := ?_) rfl (by kernel_rfl) (by kernel_rfl) (by kernel_rfl) (fun _ _ _ h => h) (Or.inl ⟨by rfl, ?_⟩) (by assumption) ?_
          rotate_left
          · (intro w hSw; (try dsimp only at hSw); go_simp); first | done | with_reducible rfl
          simp only [Act.put, List.setIfInBounds_toArray, List.set_cons_zero, List.set_cons_succ]
          refine wpAnyH_take (i := 3) (oi := { dst := some 40, op := Op.move (Operand.tmp 0), type := 60, pos := "bytes.go:51", after := #[], guard := none }) (v := ?_) rfl (by kernel_rfl) (by kernel_rfl) (by kernel_rfl) (fun _ _ _ h => h) (Or.inl ⟨by rfl, ?_⟩) (by assumption) ?_
          rotate_left
          · (intro w hSw; (try dsimp only at hSw); go_simp); first | done | with_reducible rfl
          simp only [Act.put, List.setIfInBounds_toArray, List.set_cons_zero, List.set_cons_succ]
          refine wpAnyH_take (i := 4) (oi := { dst := some 41, op := Op.move (Operand.tmp 0), type := 60, pos := "bytes.go:51", after := #[], guard := none }) (v := ?_) rfl (by kernel_rfl) (by kernel_rfl) (by kernel_rfl) (fun _ _ _ h => h) (Or.inl ⟨by rfl, ?_⟩) (by assumption) ?_
          rotate_left
          · (intro w hSw; (try dsimp only at hSw); go_simp); first | done | with_reducible rfl
          simp only [Act.put, List.setIfInBounds_toArray, List.set_cons_zero, List.set_cons_succ]
          refine wpAnyH_ready (rs := [5]) (by kernel_rfl) (by simp) ?_
          refine AllReadyH.cons rfl (fun K hK => ?_) ?_
          rotate_left
          · exact AllReadyH.nil
          go_simp
          go_wp2_with fail
          refine HLf.out.mono ?_
          rintro r w4 ⟨rfl, rfl⟩
          refine hK.out _ _ x7 (fun hHeld => ?_)
          clear hK K
          refine wpAnyH_ready (rs := [6]) (by kernel_rfl) (by simp) ?_
          refine AllReadyH.cons rfl (fun K hK => ?_) ?_
          rotate_left
          · exact AllReadyH.nil
          go_simp
          go_wp2_with fail
          refine HC.out.mono ?_
          rintro r w5 ⟨po, pc, rfl, B5, hpo, M⟩
          have hoc : Oc Z1' := HB2.out.ni.rl.s.2.2.2
          obtain ⟨so5, sn5, sc5, N5⟩ := HB2.out.kg M
          have hsz : gp < w3.drew.heap.size := HB2.out.pr.lt gp rfl
          have x8 : w5.cell? ⟨g3, 5, none⟩ = some (.slice (some ⟨gp, 0, none⟩) n n) := by have := N5.ni.b3.c5; rw [HM6.out] at this; exact this
          refine hK.out _ _ x8 (fun hHeld => ?_)
          clear hK K
          refine wpAnyH_take (i := 7) (oi := { dst := some 44, op := Op.indexAddr 22 (Operand.tmp 38) (Operand.tmp 39), type := 0, pos := "bytes.go:51", after := #[{ on := 1, ground := Ground.data }, { on := 2, ground := Ground.data }, { on := 0, ground := Ground.phase }, { on := 1, ground := Ground.phase }, { on := 2, ground := Ground.phase }, { on := 3, ground := Ground.phase }, { on := 4, ground := Ground.phase }, { on := 5, ground := Ground.phase }, { on := 6, ground := Ground.phase }], guard := none }) (v := ?_) rfl (by kernel_rfl) (by kernel_rfl) (by kernel_rfl) (fun _ _ _ h => h) (Or.inl ⟨by rfl, ?_⟩) (by assumption) ?_
          rotate_left
          · (intro w hSw; (try dsimp only at hSw); go_simp); first | done | with_reducible rfl
          simp only [Act.put, List.setIfInBounds_toArray, List.set_cons_zero, List.set_cons_succ]
          refine wpAnyH_take (i := 8) (oi := { dst := some 45, op := Op.fieldAddr 46 (Operand.tmp 44) 1, type := 0, pos := "bytes.go:51", after := #[{ on := 7, ground := Ground.data }, { on := 0, ground := Ground.phase }, { on := 1, ground := Ground.phase }, { on := 2, ground := Ground.phase }, { on := 3, ground := Ground.phase }, { on := 4, ground := Ground.phase }, { on := 5, ground := Ground.phase }, { on := 6, ground := Ground.phase }], guard := none }) (v := ?_) rfl (by kernel_rfl) (by kernel_rfl) (by kernel_rfl) (fun _ _ _ h => h) (Or.inl ⟨by rfl, ?_⟩) (by assumption) ?_
          rotate_left
          · (intro w hSw; (try dsimp only at hSw); go_simp); first | done | with_reducible rfl
          simp only [Act.put, List.setIfInBounds_toArray, List.set_cons_zero, List.set_cons_succ]
          refine wpAnyH_ready (rs := [9]) (by kernel_rfl) (by simp) ?_
          refine AllReadyH.cons rfl (fun K hK => ?_) ?_
          rotate_left
          · exact AllReadyH.nil
          obtain ⟨b0, hb0, A0, F0⟩ := N5.pr.at k HLT.out
          obtain rfl : gp = b0 := by simpa using hb0
          have y1 := A0.c1
          rw [Addr.add_lit] at y1
          have z1 := F0 (k * 2 + 1)
          obtain ⟨e6, he6⟩ : ∃ e6 : Pt, e6 = ⟨(nmV Z' : Int), po, nmV Z1', pc⟩ := ⟨_, rfl⟩
          have hg0 := getD_set_eq Q k ⟨(nmV Z' : Int), (Q.getD k pt0).vo, (Q.getD k pt0).vn, (Q.getD k pt0).vc⟩ (by rw [HQl.out]; exact HLT.out)
          have N6 := N5.put HLT.out 1 (by decide) (.slice po (nmV Z1') pc) e6 (by rw [hg0, he6]; rfl)
          obtain ⟨w6, hw6⟩ : ∃ w6, w5.setCell ⟨gp, k * 2 + 1, none⟩ (.slice po (nmV Z1') pc) = w6 := ⟨_, rfl⟩
          rw [hw6, List.set_set] at N6
          have x9 : w6.cell? ⟨g3, 5, none⟩ = some (.slice (some ⟨gp, 0, none⟩) n n) := by have := N6.ni.b3.c5; rw [HM6.out] at this; exact this
          have hg6 := getD_set_eq Q k e6 (by rw [HQl.out]; exact HLT.out)
          have N7 := N6.next (y := (Z1'.drop (nmK Z1')).take (nmV Z1')) (by
            rw [hg6, he6, ← hw6]
            exact (B5.srcO ((hoc.drop _).take _)).keep0 (fun _ x e => set_other w5 gp _ x _ (by have := hpo x e; omega))) (by
            rw [hg6, he6, ← hw6, set_size]
            exact fun b e => ⟨by have := hpo b e; omega, B5.lt b e⟩) (by rw [hg6, he6]; exact Int.natCast_nonneg _)
          have HR : Hid (NL w w6 g g2 g3 gp n (k + 1) m6 Z6) := by
            refine ⟨_, _, _, _, _, _, N7, ?_⟩
            have hY := HB2.out.len
            rw [HE0.out, HJ.out.1, HP.out, ahead_ahead, HJ.out.2, ptsOf_succ, hg6, he6]
            have e1 : ptsOf (Q.set k ⟨(nmV Z' : Int), po, nmV Z1', pc⟩) (Y ++ [(Z1'.drop (nmK Z1')).take (nmV Z1')]) k = ptsOf Q Y k := ptsOf_same _ _ _ _ k (fun i hi => ⟨getD_set_ne Q k i _ (by omega), Y_lt Y _ i (by omega)⟩)
            have e2 : (Y ++ [(Z1'.drop (nmK Z1')).take (nmV Z1')]).getD k [] = (Z1'.drop (nmK Z1')).take (nmV Z1') := by rw [← hY]; exact Y_at Y _
            rw [e1, e2]
            rfl
          clear N5 N6 N7 A0 F0 B5 M hg0 hg6 he6
          go_simp
          refine hK.out _ _ x9 (fun hHeld => ?_)
          clear hK K
          refine wpAnyH_done (by kernel_rfl) ?_ _
          clear hHeld
          go_wp2_with fail
          go_roundw
          case rel => exact ⟨k + 1, HLT.out, by rw [HK1.out], HR.out⟩
          case measure => rw [HK1.out]; have := HLT.out; simp [intOf]; omega
    · obtain rfl : k = n := by omega
      have hq : pParts k Z6 = some (ptsOf Q Y k, Z') := by
        rw [hE, Nat.sub_self]
        show some (ptsOf Q Y k ++ [], Z') = _
        rw [List.append_nil]
      have HN : Hid (pMail Z = some (⟨nmV Z, nmV Z1, nmV Z2, nmV Z3, nmV Z4, ptsOf Q Y k⟩, Z')) := by
        show _ = _
        rw [HQ6.out]
        unfold pm7
        rw [hq]
      have hl := run_ldM hNB.ni.b3
      have hs := run_stM (m' := m6) hNB.ni.b2
      have HR := hide (hNB.all (m' := m6) HM6.out HN64.out)
      have HX := hide (hNB.ni.row (m' := m6))
      have HBX := hide (MBox.setRow (m' := m6) hNB.ni.b2)
      clear hq HL hNB hE HB HBW HE0
      go_wp2_with fail
      refine bodyPost_ret (resM1 rfl rfl HBX.out) rfl ?_
      exact Or.inl ⟨_, _, m6, Q, Y, _, _, _, HN.out, rfl, HR.out, HX.out.1, HX.out.2⟩
end Go.Proofs.Ytpnlfljndkfplaa
