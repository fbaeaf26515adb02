/- ILs ISb ISn -/
import Derived.Test.YtphohmoibnoeaaaGreatTk
import Derived.Test.YtphohmoibnoeaaaGreatPb25
import Derived.Test.YtphohmoibnoeaaaGreatPb30
import Derived.Test.YtphohmoibnoeaaaGreatPr00
namespace Go.Proofs.YtphohmoibnoeaaaGreat
open Go.RowKit

theorem pNum_cut {m1 m2 : Int} (h : m1 ≤ m2) (Z : List Int) : U.pNum m1 Z = match U.pNum m2 Z with | none => none | some (v, R) => if (v : Int) ≤ m1 then some (v, R) else none := by
 unfold U.pNum
 by_cases h2 : U.nmE Z m2 = 0
 ·obtain ⟨e1, e2, -⟩ := U.nm_ok h2
  have e : U.nmE Z m1 = if m1 < (U.nmV Z : Int) then 51 else 0 := by unfold U.nmE; rw [e1]; simp
  rw [if_pos h2]
  simp only
  by_cases h3 : (U.nmV Z : Int) ≤ m1
  ·have e' : U.nmE Z m1 = 0 := by rw [e, if_neg (by omega)]
   rw [if_pos e', if_pos h3]
  ·have e' : ¬ U.nmE Z m1 = 0 := by rw [e, if_pos (by omega)]; decide
   rw [if_neg e', if_neg h3]
 ·rw [if_neg h2]
  simp only
  by_cases h1 : U.nmE Z m1 = 0
  ·exfalso
   apply h2
   obtain ⟨e1, e2, -⟩ := U.nm_ok h1
   unfold U.nmE
   rw [e1]
   simp
   omega
  ·rw [if_neg h1]
def lsPl (gap : Int) (T : Nat → Int) (r0 : Int) (Z : List Int) : Option (Int × Int × List Int) :=
 match U.pNum 16 Z with
 | none => none
 | some (a, Z1) =>
  match U.pNum 1000000000 Z1 with
  | none => none
  | some (b, Z2) => some (r0 + a, T (r0 + a).toNat + gap + b, Z2)
def lsSp (T : Nat → Int) (r0 : Int) (Z : List Int) : Option (Int × Int × Int × List Int) :=
 match lsPl 2 T r0 Z with
 | none => none
 | some (r, lo, Z2) =>
  match U.pNum 1000000000 Z2 with
  | none => none
  | some (c, Z3) => if r ≤ 15 ∧ lo + c ≤ 1000000000 then some (r, lo, lo + c, Z3) else none
theorem rdCloud_loose (n : Nat) {T : Nat → Int} {r0 : Int} (Z : List Int) (h0 : 0 ≤ r0) (hT : ∀ k, 0 ≤ T k) :
  rdCloud (n + 1) T r0 Z = match lsSp T r0 Z with
   | none => none
   | some (r, lo, hi, Z3) => match rdCloud n (upd T r.toNat hi) r Z3 with
    | none => none
    | some (L, R) => some (⟨r, lo, hi⟩ :: L, R) := by
 rw [rdCloud, pNum_cut (m1 := 15 - r0) (m2 := 16) (by omega) Z]
 unfold lsSp lsPl
 cases h1 : U.pNum 16 Z with
 | none => rfl
 | some y =>
  obtain ⟨a, Z1⟩ := y
  simp only
  have hTa := hT (r0 + a).toNat
  by_cases ha : (a : Int) ≤ 15 - r0
  ·rw [if_pos ha]
   simp only
   rw [pNum_cut (m1 := 1000000000 - (T (r0 + a).toNat + 2)) (m2 := 1000000000) (by omega) Z1]
   cases h2 : U.pNum 1000000000 Z1 with
   | none => rfl
   | some y =>
    obtain ⟨b, Z2⟩ := y
    simp only
    by_cases hb : (b : Int) ≤ 1000000000 - (T (r0 + a).toNat + 2)
    ·rw [if_pos hb]
     simp only
     rw [pNum_cut (m1 := 1000000000 - (T (r0 + a).toNat + 2 + b)) (m2 := 1000000000) (by omega) Z2]
     cases h3 : U.pNum 1000000000 Z2 with
     | none => rfl
     | some y =>
      obtain ⟨c, Z3⟩ := y
      simp only
      by_cases hc : (c : Int) ≤ 1000000000 - (T (r0 + a).toNat + 2 + b)
      ·rw [if_pos hc, if_pos ⟨by omega, by omega⟩]
       rfl
      ·rw [if_neg hc, if_neg (by omega)]
    ·rw [if_neg hb]
     simp only
     cases h3 : U.pNum 1000000000 Z2 with
     | none => rfl
     | some y =>
      obtain ⟨c, Z3⟩ := y
      simp only
      rw [if_neg (by omega)]
  ·rw [if_neg ha]
   simp only
   cases h2 : U.pNum 1000000000 Z1 with
   | none => rfl
   | some y =>
    obtain ⟨b, Z2⟩ := y
    simp only
    cases h3 : U.pNum 1000000000 Z2 with
    | none => rfl
    | some y =>
     obtain ⟨c, Z3⟩ := y
     simp only
     rw [if_neg (by omega)]
theorem pCnt_loose {each big : Int} {Z : List Int} (he : 1 ≤ each) (hl : (Z.length : Int) ≤ big) (hb : big ≤ U.mxN) :
  (∃ m R, U.pCnt each Z = some (m, R) ∧ U.pNum big Z = some (m, R)) ∨ (U.pCnt each Z = none ∧ (U.pNum big Z = none ∨ ∃ m R, U.pNum big Z = some (m, R) ∧ ¬ each.toNat * m ≤ R.length)) := by
 have eN : U.eachN each = each := by unfold U.eachN; rw [if_neg (by omega)]
 have ec := pNum_cut hb Z
 by_cases h : U.ctE Z each = 0
 ·obtain ⟨h1, h2⟩ := U.ctE_ok h
  have hc : U.pCnt each Z = some (U.nmV Z, Z.drop (U.nmK Z)) := by unfold U.pCnt; rw [if_pos h]
  have hn : U.pNum U.mxN Z = some (U.nmV Z, Z.drop (U.nmK Z)) := by unfold U.pNum; rw [if_pos h1]
  have hle : (U.nmV Z : Int) ≤ big := by
   rw [eN, Int.tdiv_eq_ediv_of_nonneg (by omega)] at h2
   have h3 : (((Z.length - U.nmK Z : Nat) : Int)) / each ≤ ((Z.length - U.nmK Z : Nat) : Int) := Int.ediv_le_self _ (by omega)
   omega
  rw [hn] at ec
  simp only at ec
  rw [if_pos hle] at ec
  exact .inl ⟨_, _, hc, ec⟩
 ·refine .inr ⟨by unfold U.pCnt; rw [if_neg h], ?_⟩
  by_cases h1 : U.nmE Z U.mxN = 0
  ·have hn : U.pNum U.mxN Z = some (U.nmV Z, Z.drop (U.nmK Z)) := by unfold U.pNum; rw [if_pos h1]
   rw [hn] at ec
   simp only at ec
   by_cases hle : (U.nmV Z : Int) ≤ big
   ·rw [if_pos hle] at ec
    refine .inr ⟨_, _, ec, fun hm => h ?_⟩
    unfold U.ctE
    rw [if_neg (by simpa using h1), if_neg ?_]
    rw [eN, Int.tdiv_eq_ediv_of_nonneg (by omega)]
    rw [List.length_drop] at hm
    have h4 : (U.nmV Z : Int) * each ≤ ((Z.length - U.nmK Z : Nat) : Int) := by
     have h5 : ((each.toNat * U.nmV Z : Nat) : Int) ≤ ((Z.length - U.nmK Z : Nat) : Int) := by exact_mod_cast hm
     rw [Int.natCast_mul, Int.toNat_of_nonneg (by omega), Int.mul_comm] at h5
     exact h5
    have h6 := Int.le_ediv_of_mul_le (show 0 < each by omega) h4
    omega
   ·rw [if_neg hle] at ec
    exact .inl ec
  ·have hn : U.pNum U.mxN Z = none := by unfold U.pNum; rw [if_neg h1]
   rw [hn] at ec
   exact .inl ec
def lsCl (big : Int) (V Z2 : List Int) : Option (Pst × List Int) :=
 match U.pNum big Z2 with
 | none => none
 | some (m, Z3) =>
  match rdCloud m (trl V) 0 Z3 with
  | none => none
  | some (L, R) => some (⟨V, L⟩, R)
def lsPast (big : Int) (Z : List Int) : Option (Pst × List Int) :=
 match U.pNum 16 Z with
 | none => none
 | some (n, Z1) =>
  match rdVec n Z1 with
  | none => none
  | some (V, Z2) => lsCl big V Z2
theorem lsPast_eq {big : Int} {Z : List Int} (hZ : U.Oc Z) (hl : (Z.length : Int) ≤ big) (hb : big ≤ U.mxN) : lsPast big Z = rdPast Z := by
 unfold lsPast rdPast
 cases h1 : U.pNum 16 Z with
 | none => rfl
 | some y =>
  obtain ⟨n, Z1⟩ := y
  simp only
  obtain ⟨e1, -, o1, -⟩ := U.pNum_of hZ h1
  cases h2 : rdVec n Z1 with
  | none => rfl
  | some y =>
   obtain ⟨V, Z2⟩ := y
   simp only
   obtain ⟨e2, -, o2, -⟩ := rdVec_of n o1 h2
   have hl2 : (Z2.length : Int) ≤ big := by rw [e1, e2] at hl; simp only [List.length_append] at hl; omega
   unfold lsCl
   rcases pCnt_loose (each := 3) (by decide) hl2 hb with ⟨m, R, ea, eb⟩ | ⟨ea, eb | ⟨m, R, eb, hm⟩⟩
   ·rw [ea, eb]
    rfl
   ·rw [ea, eb]
   ·rw [ea, eb]
    simp only
    obtain ⟨-, -, o3, -⟩ := U.pNum_of o2 eb
    cases h4 : rdCloud m (trl V) 0 R with
    | none => rfl
    | some y =>
     obtain ⟨L, R'⟩ := y
     exfalso
     obtain ⟨f1, f2, -⟩ := rdCloud_of m o3 (Int.le_refl 0) h4
     have h5 := cloudB_len L (trl V) 0
     have h6 : R.length = (cloudB (trl V) 0 L ++ R').length := by rw [← f1]
     rw [List.length_append] at h6
     apply hm
     show 3 * m ≤ _
     omega
end Go.Proofs.YtphohmoibnoeaaaGreat
namespace Go.Proofs.YtphohmoibnoeaaaGreat
open Go.RowKit
variable {w w' w2 W W' W2 w0 : World} {g b3 : Nat}

structure Sq where
 o : Option Addr
 n : Nat
 c : Nat
 Z : List Int
variable {q : Sq} {st : Option (List Int)}
def StIs (q : Sq) (a : Nat) (b : Bool) : Option (List Int) → Prop
 | none => b = true
 | some R => b = false ∧ R = q.Z.drop a
def SB (W : World) (g : Nat) (q : Sq) (st : Option (List Int)) : Prop := ∃ (a : Nat) (b : Bool), a ≤ q.n ∧ W.heap[g]? = some (.cells #[.slice q.o q.n q.c, .int .i64 (a : Int), .bool b] 113 (0, 0)) ∧ U.Src W q.o q.n q.c q.Z ∧ (q.n ≠ 0 → U.blk q.o ≠ some g) ∧ q.n ≤ q.c ∧ StIs q a b st
theorem SB.lt (R : SB W g q st) : g < W.heap.size := by obtain ⟨a, b, -, h, -⟩ := R; exact some_lt h
theorem SB.keep (R : SB W g q st) (hg : W'.heap[g]? = W.heap[g]?) (hB : q.n ≠ 0 → ∀ k, U.blk q.o = some k → W'.heap[k]? = W.heap[k]?) : SB W' g q st := by
 obtain ⟨a, b, h1, h2, h3, h4, h5, h6⟩ := R
 refine ⟨a, b, h1, hg.trans h2, ⟨h3.1, h3.2.1, fun ad ea t ht => ?_, h3.2.2.2⟩, h4, h5, h6⟩
 rw [World.cell?_of_block (w := W) (by rw [U.block_of_add]; exact hB (by omega) _ (by rw [ea]; rfl))]
 exact h3.2.2.1 ad ea t ht
theorem SB.below (R : SB W g q st) (b : Below W.heap.size W W') : SB W' g q st := by
 obtain ⟨a, b', h1, h2, h3, h4, h5, h6⟩ := R
 exact ⟨a, b', h1, (b.block g (some_lt h2)).trans h2, h3.below b, h4, h5, h6⟩
structure SP (w0 W : World) (g : Nat) (q : Sq) (st : Option (List Int)) (b3 : Nat) (vo : Option Addr) (vn vc : Nat) (V : List Int) (co : Option Addr) (cn cc : Nat) (C : List Sn) (F : List (Nat × Obj)) : Prop where
 r : SB W g q st
 gl : g < w0.heap.size
 bl : q.n ≠ 0 → ∀ k, U.blk q.o = some k → k < w0.heap.size
 k : U.Kg w0 W g
 box : W.heap[b3]? = some (.cells #[.slice vo vn vc, .slice co cn cc] 25 (0, 0))
 b3n : w0.heap.size ≤ b3
 v : I.BR W vo vn vc V
 c : J.BR W co cn cc C
 vnew : ∀ k, U.blk vo = some k → w0.heap.size ≤ k ∧ k ≠ b3 ∧ ∀ x ∈ F, x.1 ≠ k
 cnew : ∀ k, U.blk co = some k → w0.heap.size ≤ k ∧ k ≠ b3 ∧ U.blk vo ≠ some k ∧ ∀ x ∈ F, x.1 ≠ k
 keep : ∀ x ∈ F, W.heap[x.1]? = some x.2 ∧ w0.heap.size ≤ x.1 ∧ x.1 ≠ b3
variable {vo co : Option Addr} {vn vc cn cc : Nat} {V : List Int} {C : List Sn} {F : List (Nat × Obj)}
theorem SP.num (h : SP w0 W g q st b3 vo vn vc V co cn cc C F) (K : U.Kg W W' g) {st' : Option (List Int)} (R : SB W' g q st') : SP w0 W' g q st' b3 vo vn vc V co cn cc C F := by
 have hg := h.gl
 have hb := h.b3n
 refine ⟨R, h.gl, h.bl, h.k.trans K, (K.block b3 (some_lt h.box) (by omega)).trans h.box, h.b3n, h.v.keep fun k e => K.block k (h.v.lt k e) (by have := (h.vnew k e).1; omega), h.c.keep fun k e => K.block k (h.c.lt k e) (by have := (h.cnew k e).1; omega), h.vnew, h.cnew, fun x hx => ?_⟩
 obtain ⟨k1, k2, k3⟩ := h.keep x hx
 exact ⟨(K.block x.1 (some_lt k1) (by omega)).trans k1, k2, k3⟩
theorem SP.below (h : SP w0 W g q st b3 vo vn vc V co cn cc C F) (b : Below W.heap.size W W') : SP w0 W' g q st b3 vo vn vc V co cn cc C F := h.num (U.Kg.of_below b) (h.r.below b)
theorem SP.add (h : SP w0 W g q st b3 vo vn vc V co cn cc C F) (b : Below W.heap.size W W') {qq : Nat} {o : Obj} (hq : W.heap.size ≤ qq) (ho : W'.heap[qq]? = some o) : SP w0 W' g q st b3 vo vn vc V co cn cc C ((qq, o) :: F) := by
 have h2 := h.below b
 have hs := h.k.size
 have h3 := some_lt h.box
 refine ⟨h2.r, h2.gl, h2.bl, h2.k, h2.box, h2.b3n, h2.v, h2.c, fun k e => ⟨(h.vnew k e).1, (h.vnew k e).2.1, fun x hx => ?_⟩, fun k e => ⟨(h.cnew k e).1, (h.cnew k e).2.1, (h.cnew k e).2.2.1, fun x hx => ?_⟩, fun x hx => ?_⟩
 ·rcases List.mem_cons.1 hx with rfl | hx
  ·have := h.v.lt k e; show qq ≠ k; omega
  ·exact (h.vnew k e).2.2 x hx
 ·rcases List.mem_cons.1 hx with rfl | hx
  ·have := h.c.lt k e; show qq ≠ k; omega
  ·exact (h.cnew k e).2.2.2 x hx
 ·rcases List.mem_cons.1 hx with rfl | hx
  ·exact ⟨ho, by show _ ≤ qq; omega, by show qq ≠ b3; omega⟩
  ·exact h2.keep x hx
theorem SP.turn (h : SP w0 W g q st b3 vo vn vc V co cn cc C F) {qq : Nat} {o1 o2 : Obj} (h1 : (qq, o1) ∈ F) (K : U.Kg W W' qq) (h2 : W'.heap[qq]? = some o2) {F' : List (Nat × Obj)} (hF : ∀ x ∈ F', x = (qq, o2) ∨ (x ∈ F ∧ x.1 ≠ qq)) : SP w0 W' g q st b3 vo vn vc V co cn cc C F' := by
 obtain ⟨q1, q2, q3⟩ := h.keep _ h1
 have hg := h.gl
 have hk := h.k
 have e1 : ∀ k, k < W.heap.size → k ≠ qq → W'.heap[k]? = W.heap[k]? := fun k hk hn => K.block k hk hn
 have hin : ∀ x ∈ F', ∃ y ∈ F, y.1 = x.1 := fun x hx => by
  rcases hF x hx with rfl | ⟨hx, _⟩
  ·exact ⟨_, h1, rfl⟩
  ·exact ⟨x, hx, rfl⟩
 simp only at q1 q2 q3
 refine ⟨h.r.keep (e1 g h.r.lt (by omega)) (fun hz k e => ?_), h.gl, h.bl, ⟨K.os.trans hk.os, K.tape.trans hk.tape, K.output.trans hk.output, Nat.le_trans hk.size K.size, fun k hk1 hn => (e1 k (Nat.lt_of_lt_of_le hk1 hk.size) (by omega)).trans (hk.block k hk1 hn)⟩, (e1 b3 (some_lt h.box) (fun e => q3 e.symm)).trans h.box, h.b3n, h.v.keep fun k e => e1 k (h.v.lt k e) (fun x => (h.vnew k e).2.2 _ h1 x.symm), h.c.keep fun k e => e1 k (h.c.lt k e) (fun x => (h.cnew k e).2.2.2 _ h1 x.symm), fun k e => ⟨(h.vnew k e).1, (h.vnew k e).2.1, fun x hx => ?_⟩, fun k e => ⟨(h.cnew k e).1, (h.cnew k e).2.1, (h.cnew k e).2.2.1, fun x hx => ?_⟩, fun x hx => ?_⟩
 ·have := h.bl hz k e
  have := hk.size
  exact e1 k (by omega) (by omega)
 ·obtain ⟨y, hy, ey⟩ := hin x hx; rw [← ey]; exact (h.vnew k e).2.2 y hy
 ·obtain ⟨y, hy, ey⟩ := hin x hx; rw [← ey]; exact (h.cnew k e).2.2.2 y hy
 ·rcases hF x hx with rfl | ⟨hx, hn⟩
  ·exact ⟨h2, q2, q3⟩
  ·obtain ⟨k1, k2, k3⟩ := h.keep x hx
   exact ⟨(e1 x.1 (some_lt k1) hn).trans k1, k2, k3⟩
theorem SP.appV (h : SP w0 W g q st b3 vo vn vc V co cn cc C F) {bo : Option Addr} {n2 c2 : Nat} {V2 : List Int} (A : U.Ap W W2 vo bo) (h2 : I.BR W2 bo n2 c2 V2) : SP w0 (W2.setCell ⟨b3, 0, none⟩ (.slice bo n2 c2)) g q st b3 bo n2 c2 V2 co cn cc C F := by
 have hg := h.gl
 have hb := h.b3n
 have hk := h.k
 have hsz := A.grown.size
 have hvo : ∀ k, k < W.heap.size → U.blk vo ≠ some k → W2.heap[k]? = W.heap[k]? := fun k hk hn => A.grown.block k hk (fun e => hn e.symm)
 have nb3 : U.blk vo ≠ some b3 := fun e => (h.vnew b3 e).2.1 rfl
 have nlow : ∀ k, k < w0.heap.size → U.blk vo ≠ some k := fun k hk e => by have := (h.vnew k e).1; omega
 have e1 : ∀ k, k < W.heap.size → k ≠ b3 → U.blk vo ≠ some k → (W2.setCell ⟨b3, 0, none⟩ (.slice bo n2 c2)).heap[k]? = W.heap[k]? := fun k hk h3 hn => (U.set_other W2 b3 0 k _ h3).trans (hvo k hk hn)
 have hbo : ∀ k, U.blk bo = some k → U.blk vo = some k ∨ W.heap.size ≤ k := fun k e => by
  rcases A.lies with x | ⟨j, x, hj⟩
  ·exact .inl (x ▸ e)
  ·rw [x] at e; exact .inr (by have := Option.some.inj e; omega)
 have hbox : W2.heap[b3]? = some (.cells #[.slice vo vn vc, .slice co cn cc] 25 (0, 0)) := (hvo b3 (some_lt h.box) nb3).trans h.box
 have hb3 := some_lt h.box
 have bne : ∀ k, U.blk bo = some k → k ≠ b3 := fun k e e3 => by
  rcases hbo k e with x | x
  ·exact nb3 (e3 ▸ x)
  ·omega
 refine ⟨h.r.keep (e1 g h.r.lt (by omega) (nlow g hg)) (fun hz k e => ?_), h.gl, h.bl, ⟨?_, ?_, ?_, ?_, fun k hk1 hn => ?_⟩, U.set_heap W2 b3 _ _ _ 0 _ hbox, h.b3n, h2.keep fun k e => U.set_other W2 b3 0 k _ (bne k e), h.c.keep fun k e => e1 k (h.c.lt k e) (h.cnew k e).2.1 (h.cnew k e).2.2.1, fun k e => ⟨?_, bne k e, fun x hx => ?_⟩, fun k e => ⟨(h.cnew k e).1, (h.cnew k e).2.1, fun e2 => ?_, (h.cnew k e).2.2.2⟩, fun x hx => ?_⟩
 ·have := h.bl hz k e
  have := hk.size
  exact e1 k (by omega) (by omega) (nlow k (h.bl hz k e))
 ·rw [U.setCell_os]; exact A.grown.os.trans hk.os
 ·rw [U.setCell_tape]; exact A.grown.tape.trans hk.tape
 ·rw [U.setCell_output]; exact A.grown.output.trans hk.output
 ·rw [U.set_size]; exact Nat.le_trans hk.size hsz
 ·exact (e1 k (Nat.lt_of_lt_of_le hk1 hk.size) (by omega) (nlow k hk1)).trans (hk.block k hk1 hn)
 ·rcases hbo k e with x | x
  ·exact (h.vnew k x).1
  ·have := hk.size; omega
 ·rcases hbo k e with y | y
  ·exact (h.vnew k y).2.2 x hx
  ·have := some_lt (h.keep x hx).1; omega
 ·rcases hbo k e2 with y | y
  ·exact (h.cnew k e).2.2.1 y
  ·have := h.c.lt k e; omega
 ·obtain ⟨k1, k2, k3⟩ := h.keep x hx
  exact ⟨(e1 x.1 (some_lt k1) k3 (fun e => (h.vnew _ e).2.2 x hx rfl)).trans k1, k2, k3⟩
theorem SP.appC (h : SP w0 W g q st b3 vo vn vc V co cn cc C F) {bo : Option Addr} {n2 c2 : Nat} {C2 : List Sn} (A : U.Ap W W2 co bo) (h2 : J.BR W2 bo n2 c2 C2) : SP w0 (W2.setCell ⟨b3, 1, none⟩ (.slice bo n2 c2)) g q st b3 vo vn vc V bo n2 c2 C2 F := by
 have hg := h.gl
 have hb := h.b3n
 have hk := h.k
 have hsz := A.grown.size
 have hvo : ∀ k, k < W.heap.size → U.blk co ≠ some k → W2.heap[k]? = W.heap[k]? := fun k hk hn => A.grown.block k hk (fun e => hn e.symm)
 have nb3 : U.blk co ≠ some b3 := fun e => (h.cnew b3 e).2.1 rfl
 have nlow : ∀ k, k < w0.heap.size → U.blk co ≠ some k := fun k hk e => by have := (h.cnew k e).1; omega
 have e1 : ∀ k, k < W.heap.size → k ≠ b3 → U.blk co ≠ some k → (W2.setCell ⟨b3, 1, none⟩ (.slice bo n2 c2)).heap[k]? = W.heap[k]? := fun k hk h3 hn => (U.set_other W2 b3 1 k _ h3).trans (hvo k hk hn)
 have hbo : ∀ k, U.blk bo = some k → U.blk co = some k ∨ W.heap.size ≤ k := fun k e => by
  rcases A.lies with x | ⟨j, x, hj⟩
  ·exact .inl (x ▸ e)
  ·rw [x] at e; exact .inr (by have := Option.some.inj e; omega)
 have hbox : W2.heap[b3]? = some (.cells #[.slice vo vn vc, .slice co cn cc] 25 (0, 0)) := (hvo b3 (some_lt h.box) nb3).trans h.box
 have hb3 := some_lt h.box
 have bne : ∀ k, U.blk bo = some k → k ≠ b3 := fun k e e3 => by
  rcases hbo k e with x | x
  ·exact nb3 (e3 ▸ x)
  ·omega
 have nvc : ∀ k, U.blk vo = some k → U.blk co ≠ some k := fun k e e2 => (h.cnew k e2).2.2.1 e
 refine ⟨h.r.keep (e1 g h.r.lt (by omega) (nlow g hg)) (fun hz k e => ?_), h.gl, h.bl, ⟨?_, ?_, ?_, ?_, fun k hk1 hn => ?_⟩, U.set_heap W2 b3 _ _ _ 1 _ hbox, h.b3n, h.v.keep fun k e => e1 k (h.v.lt k e) (h.vnew k e).2.1 (nvc k e), h2.keep fun k e => U.set_other W2 b3 1 k _ (bne k e), h.vnew, fun k e => ⟨?_, bne k e, fun e2 => ?_, fun x hx => ?_⟩, fun x hx => ?_⟩
 ·have := h.bl hz k e
  have := hk.size
  exact e1 k (by omega) (by omega) (nlow k (h.bl hz k e))
 ·rw [U.setCell_os]; exact A.grown.os.trans hk.os
 ·rw [U.setCell_tape]; exact A.grown.tape.trans hk.tape
 ·rw [U.setCell_output]; exact A.grown.output.trans hk.output
 ·rw [U.set_size]; exact Nat.le_trans hk.size hsz
 ·exact (e1 k (Nat.lt_of_lt_of_le hk1 hk.size) (by omega) (nlow k hk1)).trans (hk.block k hk1 hn)
 ·rcases hbo k e with x | x
  ·exact (h.cnew k x).1
  ·have := hk.size; omega
 ·rcases hbo k e with y | y
  ·exact nvc k e2 y
  ·have := h.v.lt k e2; omega
 ·rcases hbo k e with y | y
  ·exact (h.cnew k y).2.2.2 x hx
  ·have := some_lt (h.keep x hx).1; omega
 ·obtain ⟨k1, k2, k3⟩ := h.keep x hx
  exact ⟨(e1 x.1 (some_lt k1) k3 (fun e => (h.cnew _ e).2.2.2 x hx rfl)).trans k1, k2, k3⟩
theorem SP.start (R : SB w0 g q st) (hB : q.n ≠ 0 → ∀ k, U.blk q.o = some k → k < w0.heap.size) (b : Below w0.heap.size w0 W) (hF : ∀ x ∈ F, W.heap[x.1]? = some x.2 ∧ w0.heap.size ≤ x.1) :
  SP w0 (W.alloc (.cells #[.slice none 0 0, .slice none 0 0] 25)) g q st W.heap.size none 0 0 [] none 0 0 [] F := by
 have hn := U.below_new W (.cells #[.slice none 0 0, .slice none 0 0] 25)
 have b2 := b.trans (hn.mono b.size)
 have hs := b.size
 refine ⟨R.below b2, R.lt, hB, U.Kg.of_below b2, heap_alloc_new W _, b.size, I.BR.nil _, J.BR.nil _, fun k e => (by cases e), fun k e => (by cases e), fun x hx => ?_⟩
 obtain ⟨k1, k2⟩ := hF x hx
 have h1 := some_lt k1
 exact ⟨(hn.block x.1 h1).trans k1, k2, by omega⟩
theorem SP.heldV (h : SP w0 W g q st b3 vo vn vc V co cn cc C F) {bo : Option Addr} (A : U.Ap W W2 vo bo) : W2.heap[b3]? = some (.cells #[.slice vo vn vc, .slice co cn cc] 25 (0, 0)) ∧ ∀ x ∈ F, W2.heap[x.1]? = some x.2 :=
 ⟨(A.grown.block b3 (some_lt h.box) (fun e => (h.vnew b3 e.symm).2.1 rfl)).trans h.box, fun x hx => (A.grown.block x.1 (some_lt (h.keep x hx).1) (fun e => (h.vnew x.1 e.symm).2.2 x hx rfl)).trans (h.keep x hx).1⟩
theorem SP.heldC (h : SP w0 W g q st b3 vo vn vc V co cn cc C F) {bo : Option Addr} (A : U.Ap W W2 co bo) : W2.heap[b3]? = some (.cells #[.slice vo vn vc, .slice co cn cc] 25 (0, 0)) ∧ ∀ x ∈ F, W2.heap[x.1]? = some x.2 :=
 ⟨(A.grown.block b3 (some_lt h.box) (fun e => (h.cnew b3 e.symm).2.1 rfl)).trans h.box, fun x hx => (A.grown.block x.1 (some_lt (h.keep x hx).1) (fun e => (h.cnew x.1 e.symm).2.2.2 x hx rfl)).trans (h.keep x hx).1⟩
end Go.Proofs.YtphohmoibnoeaaaGreat
namespace Go.Proofs.YtphohmoibnoeaaaGreat
open Go.RowKit
variable {w w' w2 W W' W2 w0 : World} {g b3 : Nat} {q : Sq} {st : Option (List Int)}

theorem numB_last : ∀ (v : Nat), (U.numB v).getD ((U.numB v).length - 1) 0 < 128
 | v => by
  by_cases h : v < 128
  ·rw [U.numB_lt h]
   show (v : Int) < 128
   omega
  ·have ih := numB_last (v / 128)
   have hp := numB_pos (v / 128)
   rw [U.numB_ge h]
   simp only [List.length_cons, Nat.add_sub_cancel]
   obtain ⟨l, hl⟩ : ∃ l, (U.numB (v / 128)).length = l + 1 := ⟨(U.numB (v / 128)).length - 1, by omega⟩
   rw [hl] at ih ⊢
   simpa [List.getD] using ih
termination_by v => v
decreasing_by omega
def sNum (most : Int) : Option (List Int) → Nat × Option (List Int)
 | none => (0, none)
 | some R => match U.pNum most R with
  | none => (0, none)
  | some (v, R') => (v, some R')
theorem sNum_bad {most : Int} {R : List Int} (h : U.pNum most R = none) : sNum most (some R) = (0, none) := by simp [sNum, h]
theorem sNum_ok {most : Int} {R R' : List Int} {v : Nat} (h : U.pNum most R = some (v, R')) : sNum most (some R) = (v, some R') := by simp [sNum, h]
theorem pNum_err {Z : List Int} {a : Nat} {most : Int} (h : (U.rdN Z a).2.2 ≠ 0) : U.pNum most (Z.drop a) = none := by
 unfold U.pNum
 rw [if_neg ?_]
 unfold U.nmE
 rw [U.rdN_drop, if_pos h]
 exact h
theorem pNum_six {R : List Int} (hR : U.Oc R) {most : Int} (hm : most < 4398046511104) (h : ∀ t, t < 6 → ¬ R.getD t 0 < 128) : U.pNum most R = none := by
 cases hp : U.pNum most R with
 | none => rfl
 | some y =>
  obtain ⟨v, R'⟩ := y
  exfalso
  obtain ⟨e, h1, -, -⟩ := U.pNum_of hR hp
  have h2 := U.numB_len 5 v (by
   have : v < 4398046511104 := by omega
   exact this)
  have h3 := numB_pos v
  have h4 := numB_last v
  refine h ((U.numB v).length - 1) (by omega) ?_
  rw [e, List.getD_eq_getElem?_getD, List.getElem?_append_left (by omega), ← List.getD_eq_getElem?_getD]
  exact h4
theorem pNum_end {Z : List Int} (hZ : U.Oc Z) {a k : Nat} {most z V1 : Int} (hk : k ≤ 5) (hs : U.scan Z a (9 - k) k = U.rdN Z a) (hl : a + k < Z.length) (hz : Z.getD (a + k) 0 = z) (h1 : z < 128) (hV : U.val Z a (k + 1) = V1) :
  ∃ v : Nat, V1 = (v : Int) ∧ v < 4398046511104 ∧ ((most < V1 ∧ U.pNum most (Z.drop a) = none) ∨ ((U.numB v).length ≠ k + 1 ∧ U.pNum most (Z.drop a) = none) ∨ (¬ most < V1 ∧ (U.numB v).length = k + 1 ∧ U.pNum most (Z.drop a) = some (v, Z.drop (a + (k + 1))))) := by
 have b := U.val_bd Z a (k + 1)
 rw [hV] at b
 have hp : (128 : Int) ^ (k + 1) ≤ 4398046511104 := by
  have : (128 : Nat) ^ (k + 1) ≤ 128 ^ 6 := Nat.pow_le_pow_right (by omega) (by omega)
  have h2 : ((128 ^ (k + 1) : Nat) : Int) ≤ ((128 ^ 6 : Nat) : Int) := by exact_mod_cast this
  simp at h2
  omega
 obtain ⟨v, rfl⟩ := Int.eq_ofNat_of_zero_le b.1
 refine ⟨v, rfl, by omega, ?_⟩
 rw [show 9 - k = (8 - k) + 1 by omega] at hs
 by_cases h0 : z = 0 ∧ 0 < k
 ·rw [U.scan_bad Z a _ k (by omega) (by rw [hz]; exact h0.1) h0.2] at hs
  refine .inr (.inl ⟨?_, pNum_err (by rw [← hs]; decide)⟩)
  obtain ⟨j, rfl⟩ : ∃ j, k = j + 1 := ⟨k - 1, by omega⟩
  have b2 := U.val_bd Z a (j + 1)
  have e : U.val Z a (j + 1 + 1) = U.val Z a (j + 1) := by
   show U.val Z a (j + 1) + _ = _
   rw [hz, h0.1]
   simp
  rw [e] at hV
  rw [hV] at b2
  have h3 := U.numB_len j v (by exact_mod_cast b2.2)
  omega
 ·rw [U.scan_good Z a _ k (by omega) (by rw [hz]; exact h1) (by rw [hz]; exact h0), hV] at hs
  have hd := U.rdN_drop Z a
  rw [← hs] at hd
  have en : ∀ m : Int, U.nmE (Z.drop a) m = if m < (v : Int) then 51 else 0 := fun m => by unfold U.nmE; rw [hd]; simp
  have ev : U.nmV (Z.drop a) = v := by unfold U.nmV; rw [hd]; simp
  have ek : U.nmK (Z.drop a) = k + 1 := by unfold U.nmK; rw [hd]; simp
  have hbig : U.pNum 4398046511104 (Z.drop a) = some (v, Z.drop (a + (k + 1))) := by
   unfold U.pNum
   rw [en, if_neg (show ¬ (4398046511104 : Int) < v by omega), if_pos rfl, ev, ek, List.drop_drop]
  have hlen : (U.numB v).length = k + 1 := by
   obtain ⟨e, -⟩ := U.pNum_of (hZ.drop a) hbig
   have e2 := congrArg List.length e
   simp only [List.length_append, List.length_drop] at e2
   omega
  by_cases hm : most < (v : Int)
  ·refine .inl ⟨hm, ?_⟩
   unfold U.pNum
   rw [en, if_pos hm, if_neg (by decide)]
  ·refine .inr (.inr ⟨hm, hlen, ?_⟩)
   unfold U.pNum
   rw [en, if_neg hm, if_pos rfl, ev, ek, List.drop_drop]
def ScC (q : Sq) (a : Nat) (b : Bool) : Array Value := #[.slice q.o q.n q.c, .int .i64 (a : Int), .bool b]
theorem sc_cells {a : Nat} {b : Bool} (h : W.heap[g]? = some (.cells (ScC q a b) 113 (0, 0))) : W.cell? ⟨g, 0, none⟩ = some (.slice q.o q.n q.c) ∧ W.cell? ⟨g, 1, none⟩ = some (.int .i64 (a : Int)) ∧ W.cell? ⟨g, 2, none⟩ = some (.bool b) ∧ ∀ j, W.frozen? ⟨g, j, none⟩ = false :=
 ⟨by simp [World.cell?, h, ScC], by simp [World.cell?, h, ScC], by simp [World.cell?, h, ScC], fun j => by simp [World.frozen?, h]⟩
theorem sc_setA {a a' : Nat} {b : Bool} (h : W.heap[g]? = some (.cells (ScC q a b) 113 (0, 0))) : (W.setCell ⟨g, 1, none⟩ (.int .i64 (a' : Int))).heap[g]? = some (.cells (ScC q a' b) 113 (0, 0)) := U.set_heap W g _ _ _ 1 _ h
theorem sc_setB {a : Nat} {b b' : Bool} (h : W.heap[g]? = some (.cells (ScC q a b) 113 (0, 0))) : (W.setCell ⟨g, 2, none⟩ (.bool b')).heap[g]? = some (.cells (ScC q a b') 113 (0, 0)) := U.set_heap W g _ _ _ 2 _ h
structure Sg (w W : World) (g : Nat) (q : Sq) (a : Nat) (b : Bool) : Prop where
 box : W.heap[g]? = some (.cells (ScC q a b) 113 (0, 0))
 src : U.Src W q.o q.n q.c q.Z
 kg : U.Kg w W g
 ne : q.n ≠ 0 → U.blk q.o ≠ some g
 cap : q.n ≤ q.c
 le : a ≤ q.n
theorem Sg.src_on {a : Nat} {b : Bool} (h : Sg w W g q a b) (hB : ∀ k, k < W.heap.size → k ≠ g → W'.heap[k]? = W.heap[k]?) : U.Src W' q.o q.n q.c q.Z := by
 refine ⟨h.src.1, h.src.2.1, fun ad ea t ht => ?_, h.src.2.2.2⟩
 have hc := h.src.2.2.1 ad ea t ht
 have hl := World.block_lt_of_cell? _ _ hc
 rw [U.block_of_add] at hl
 rw [World.cell?_of_block (w := W) (by rw [U.block_of_add]; exact hB _ hl (fun e => h.ne (by omega) (by rw [ea, ← e]; rfl)))]
 exact hc
theorem Sg.below {a : Nat} {b : Bool} (h : Sg w W g q a b) (hb : Below W.heap.size W W') : Sg w W' g q a b :=
 ⟨(hb.block g (some_lt h.box)).trans h.box, h.src.below hb, h.kg.trans (U.Kg.of_below hb), h.ne, h.cap, h.le⟩
theorem Sg.setA {a a' : Nat} {b : Bool} (h : Sg w W g q a b) (ha : a' ≤ q.n) : Sg w (W.setCell ⟨g, 1, none⟩ (.int .i64 (a' : Int))) g q a' b :=
 ⟨sc_setA h.box, h.src_on (fun k _ hk => U.set_other W g 1 k _ hk), h.kg.set 1 _, h.ne, h.cap, ha⟩
theorem Sg.setB {a : Nat} {b b' : Bool} (h : Sg w W g q a b) : Sg w (W.setCell ⟨g, 2, none⟩ (.bool b')) g q a b' :=
 ⟨sc_setB h.box, h.src_on (fun k _ hk => U.set_other W g 2 k _ hk), h.kg.set 2 _, h.ne, h.cap, h.le⟩
theorem Sg.bad {a : Nat} (h : Sg w W g q a true) : SB W g q none ∧ U.Kg w W g := ⟨⟨a, true, h.le, h.box, h.src, h.ne, h.cap, rfl⟩, h.kg⟩
theorem Sg.good {a : Nat} (h : Sg w W g q a false) : SB W g q (some (q.Z.drop a)) ∧ U.Kg w W g := ⟨⟨a, false, h.le, h.box, h.src, h.ne, h.cap, rfl, rfl⟩, h.kg⟩
theorem SB.sg (h : SB W g q st) : ∃ a b, Sg W W g q a b ∧ StIs q a b st := by
 obtain ⟨a, b, h1, h2, h3, h4, h5, h6⟩ := h
 exact ⟨a, b, ⟨h2, h3, U.Kg.refl _ _, h4, h5, h1⟩, h6⟩
def NumS (w w' : World) (e : Ending) (g : Nat) (q : Sq) (x : Nat × Option (List Int)) : Prop := e = .returned (.int .i64 (x.1 : Int)) ∧ SB w' g q x.2 ∧ U.Kg w w' g
set_option maxRecDepth 100000 in
set_option maxHeartbeats 6400000 in
theorem snum_any (hS : SB W g q st) (most : Int) (hm : most < 4398046511104) (hq : q.n ≤ 4611686018427387904) : Calls Tryz.prog 72 #[U.ptr g, .int .i64 most] W fun e w' => NumS W w' e g q (sNum most st) := by
 obtain ⟨a, b, hG, hI⟩ := hS.sg
 have HG := hide hG
 obtain ⟨c0, c1, c2, fz⟩ := sc_cells hG.box
 have HM := hide hm
 have HQ := hide hq
 clear hS hG
 cases st with
 | none =>
  obtain rfl : b = true := hI
  have HF : Hid (NumS W (W.setCell ⟨g, 2, none⟩ (.bool true)) (.returned (.int .i64 0)) g q (sNum most none)) := ⟨rfl, (HG.out.setB (b' := true)).bad⟩
  go_enter Tryz.func72, Tryz.ntmps72
  go_wp2_with fail
  go_loopw [5, 6, 8] (fun n u i wr => n = .int .i64 0 ∧ u = .int .i64 1 ∧ i = .int .i64 0 ∧ wr = W) (fun _ _ _ _ => 0)
  case atStart => exact ⟨rfl, rfl, rfl, rfl⟩
  case round =>
   obtain ⟨rfl, rfl, rfl, rfl⟩ := hrel
   go_wp2_with fail
   go_ret
   exact HF.out
 | some R0 =>
  obtain ⟨rfl, hR⟩ := hI
  subst hR
  go_enter Tryz.func72, Tryz.ntmps72
  go_wp2_with fail
  clear c0 c1 c2 fz
  go_loopw [5, 6, 8] (fun n u i wr => ∃ k : Nat, k ≤ 6 ∧ n = .int .i64 (U.val q.Z a k) ∧ u = .int .i64 (128 ^ k) ∧ i = .int .i64 k ∧ Hid (∃ p, a + k = p ∧ Sg W wr g q p false ∧ U.scan q.Z a (9 - k) k = U.rdN q.Z a ∧ ∀ t, t < k → 128 ≤ q.Z.getD (a + t) 0)) (fun _ _ i _ => 6 - (intOf i).toNat)
  case atStart => exact ⟨0, Nat.zero_le _, rfl, rfl, rfl, a, rfl, HG.out, rfl, fun t ht => by omega⟩
  case round =>
   obtain ⟨k, hk, rfl, rfl, rfl, HK⟩ := hrel
   rename World => wr
   obtain ⟨p, hp, hGp, hsc, hbig⟩ := HK.out
   obtain ⟨V, HV⟩ : ∃ V, Hid (U.val q.Z a k = V) := ⟨_, rfl⟩
   obtain ⟨u, HU⟩ : ∃ u : Int, Hid ((128 : Int) ^ k = u) := ⟨_, rfl⟩
   rw [HV.out, HU.out]
   obtain ⟨c0, c1, c2, fz⟩ := sc_cells hGp.box
   have HGp := hide hGp
   have Hp := hide hp
   have Hsc := hide hsc
   have Hbig := hide hbig
   have hZl := hGp.src.1
   have HZl := hide hZl
   have HZo : Hid (U.Oc q.Z) := hGp.src.2.2.2
   have hpq := hGp.le
   have Hpq := hide hpq
   by_cases h6 : k = 6
   ·have HF : Hid (NumS W (wr.setCell ⟨g, 2, none⟩ (.bool true)) (.returned (.int .i64 0)) g q (sNum most (some (q.Z.drop a)))) := by
     rw [sNum_bad (pNum_six (HZo.out.drop a) HM.out (fun t ht => by rw [U.drop_getD]; have := Hbig.out t (by omega); omega))]
     exact ⟨rfl, (HGp.out.setB (b' := true)).bad⟩
    have hki : ¬ ((k : Nat) : Int) < 6 := by omega
    clear h6 hGp hp hsc hbig hZl hpq HK
    go_wp2_with fail
    go_ret
    exact HF.out
   have hk5 : k ≤ 5 := by omega
   have hki : ((k : Nat) : Int) < 6 := by omega
   by_cases hlt : p < q.n
   rotate_left
   ·have HF : Hid (∀ V : World, Sg W V g q p true → NumS W V (.returned (.int .i64 0)) g q (sNum most (some (q.Z.drop a)))) := fun V hV => by
     rw [sNum_bad (pNum_err (by
      have h1 := Hsc.out
      rw [show 9 - k = (8 - k) + 1 by omega, U.scan_end q.Z a _ k (by have := HZl.out; have := Hp.out; omega)] at h1
      rw [← h1]
      decide))]
     exact ⟨rfl, hV.bad⟩
    have hpi : ¬ ((p : Nat) : Int) < (q.n : Int) := by omega
    have hpi2 : (q.n : Int) ≤ ((p : Nat) : Int) := by omega
    have hpn : q.n ≤ p := by omega
    clear h6 hGp hp hsc hbig hZl hpq HK hlt
    go_wp2_with fail
    go_quiet (fail)
    have HG2 := hide (HGp.out.below (U.below_drewN wr nq))
    clear c0 c1 c2 fz
    generalize wr.drewN nq = wd at HG2 ⊢
    obtain ⟨c0, c1, c2, fz⟩ := sc_cells HG2.out.box
    go_wp2_with fail
    go_ret
    exact HF.out _ HG2.out.setB
   ·obtain ⟨ad, hao, hcell⟩ := U.cell_at hGp.src p hlt
    have hzb := hGp.src.2.2.2 p
    obtain ⟨z, Hz⟩ : ∃ z, Hid (q.Z.getD p 0 = z) := ⟨_, rfl⟩
    rw [Hz.out] at hcell hzb
    have hpi : ((p : Nat) : Int) < (q.n : Int) := by omega
    have hpi2 : ¬ (q.n : Int) ≤ ((p : Nat) : Int) := by omega
    have hpn : ¬ q.n ≤ p := by omega
    have Hlt := hide hlt
    have Hzb := hide hzb
    have HAo := hide hao
    obtain ⟨p1, hp1⟩ : ∃ p1 : Nat, p + 1 = p1 := ⟨_, rfl⟩
    have HPE : Hid (((p1 : Nat) : Int) = (p : Int) + 1) := by show _ = _; omega
    have HPW : Hid (wrap64 ((p : Int) + 1) = (p1 : Int)) := by show _ = _; have := HQ.out; rw [U.w64 (by omega) (by omega)]; omega
    have Hp1 : Hid (p1 = a + (k + 1) ∧ p1 ≤ q.n) := ⟨by have := Hp.out; omega, by have := Hlt.out; omega⟩
    have HKW : Hid (wrap64 ((k : Int) + 1) = ((k + 1 : Nat) : Int)) := by show _ = _; rw [U.w64 (by omega) (by omega)]; omega
    have HLl : Hid (a + k < q.Z.length) := by show _ < _; have := HZl.out; have := Hp.out; have := Hlt.out; omega
    have HZk : Hid (q.Z.getD (a + k) 0 = z) := by show _ = _; rw [Hp.out]; exact Hz.out
    have HW1 : Hid (wrap64 ((p1 : Int) - (a : Int)) = ((k + 1 : Nat) : Int)) := by show _ = _; have := Hp1.out; have := HQ.out; rw [U.w64 (by omega) (by omega)]; omega
    have HNN : Hid (128 ≤ z → U.scan q.Z a (9 - (k + 1)) (k + 1) = U.rdN q.Z a ∧ ∀ t, t < k + 1 → 128 ≤ q.Z.getD (a + t) 0) := fun hz1 => by
     refine ⟨?_, fun t ht => ?_⟩
     ·rw [← Hsc.out, show 9 - k = (9 - (k + 1)) + 1 by omega, U.scan_on q.Z a _ k (by have := HLl.out; omega) (by rw [HZk.out]; omega)]
     ·by_cases e : t = k
      ·rw [e, HZk.out]; exact hz1
      ·exact Hbig.out t (by omega)
    obtain ⟨kk, hkk⟩ : ∃ kk : Nat, k + 1 = kk := ⟨_, rfl⟩
    have HWk : Hid (IntKind.i64.wrap ((p1 : Int) - (a : Int)) = (kk : Int)) := by show _ = _; have := Hp1.out; have := HQ.out; rw [IntKind.wrap_i64]; omega
    have HKk := hide hkk
    have HK5 : Hid (k + 1 ≤ 6 ∧ 6 - (k + 1) < 6 - k) := ⟨by omega, by omega⟩
    clear hkk
    obtain ⟨cz, hcz⟩ : ∃ cz, z % 128 = cz := ⟨_, rfl⟩
    have hcz2 : z.tmod 128 = cz := by rw [Int.tmod_eq_emod_of_nonneg (by omega)]; exact hcz
    obtain ⟨e1, v0, m0, v1, u0, u1⟩ := U.step_val q.Z a k (by omega) z cz V u (by rw [Hp.out]; exact Hz.out) hcz.symm HV.out HU.out
    have hu2 : u * 128 ≤ 4398046511104 := by
     have : (128 : Nat) ^ (k + 1) ≤ 128 ^ 6 := Nat.pow_le_pow_right (by omega) (by omega)
     have h2 : ((128 ^ (k + 1) : Nat) : Int) ≤ ((128 ^ 6 : Nat) : Int) := by exact_mod_cast this
     rw [Nat.pow_succ, Int.natCast_mul] at h2
     simp at h2
     rw [HU.out] at h2
     exact h2
    have hw1 : wrap64 (cz * u) = cz * u := U.w64 (by omega) (by omega)
    have hw2 : wrap64 (V + cz * u) = V + cz * u := U.w64 (by omega) (by omega)
    have hw3 : wrap64 (u * 128) = u * 128 := U.w64 (by omega) (by omega)
    obtain ⟨mz, hmz⟩ : ∃ mz, cz * u = mz := ⟨_, rfl⟩
    rw [hmz] at hw1 hw2 e1
    obtain ⟨V1, hV1⟩ : ∃ V1, V + mz = V1 := ⟨_, rfl⟩
    rw [hV1] at hw2 e1
    obtain ⟨u2, hu2'⟩ : ∃ u2, u * 128 = u2 := ⟨_, rfl⟩
    rw [hu2'] at hw3
    have hw1 : wrap64 (cz * u) = mz := by rw [hmz]; exact hw1
    have hw2 : wrap64 (V + mz) = V1 := by rw [hV1]; exact hw2
    have hw3 : wrap64 (u * 128) = u2 := by rw [hu2']; exact hw3
    have HE1 := hide e1
    have HU2 : Hid ((128 : Int) ^ (k + 1) = u2) := by show _ = _; rw [Int.pow_succ, HU.out, hu2']
    have hpw := HPW.out
    clear h6 hGp hp hsc hbig hZl hpq HK hlt hzb e1 v0 m0 v1 u0 u1 hu2 hmz hV1 hu2' hp1 hcz hao
    rw [HAo.out] at c0
    go_wp2_with fail
    go_quiet (fail)
    have HG2 := hide (HGp.out.below (U.below_drewN wr nq))
    have hc2 := hcell
    clear c0 c1 c2 fz
    have hcell : (wr.drewN nq).cell? (ad.add p) = some (.int .u8 z) := hc2
    clear hc2
    generalize wr.drewN nq = wd at HG2 hcell ⊢
    obtain ⟨c0, c1, c2, fz⟩ := sc_cells HG2.out.box
    rw [HAo.out] at c0
    have hzb := Hzb.out
    go_wp2_with fail
    go_quiet (fail)
    have HG3 := hide (HG2.out.below (U.below_drewN wd nq))
    clear c0 c1 c2 fz hcell
    generalize wd.drewN nq = wf at HG3 ⊢
    obtain ⟨c0, c1, c2, fz⟩ := sc_cells HG3.out.box
    rw [HAo.out] at c0
    have HG4 : Hid (Sg W (wf.setCell ⟨g, 1, none⟩ (.int .i64 ((p : Int) + 1))) g q p1 false) := by
     have h := HG3.out.setA (a' := p1) Hp1.out.2
     rw [HPE.out] at h
     exact h
    by_cases hz1 : z < 128
    ·obtain ⟨v, hv, hvb, hcase⟩ := pNum_end (most := most) HZo.out hk5 Hsc.out HLl.out HZk.out hz1 HE1.out
     subst hv
     have HvB := hide hvb
     have HC := hide hcase
     clear hcase hvb
     go_upto_region 14 with fail
     obtain ⟨wg, hwg⟩ : ∃ wg, wf.setCell ⟨g, 1, none⟩ (.int .i64 ((p : Int) + 1)) = wg := ⟨_, rfl⟩
     rw [hwg] at HG4 ⊢
     clear hwg c0 c1 c2 fz HG3 HG2
     obtain ⟨c0, c1, c2, fz⟩ := sc_cells HG4.out.box
     by_cases hmv : most < (v : Int)
     ·have HF : Hid (∀ V : World, Sg W V g q p1 true → NumS W V (.returned (.int .i64 0)) g q (sNum most (some (q.Z.drop a)))) := fun V hV => by
       rcases HC.out with ⟨-, h⟩ | ⟨-, h⟩ | ⟨h, -⟩
       ·rw [sNum_bad h]; exact ⟨rfl, hV.bad⟩
       ·rw [sNum_bad h]; exact ⟨rfl, hV.bad⟩
       ·exact absurd hmv h
      refine wp_region_held_drew (S := fun v => v.cell? ⟨g, 1, none⟩ = some (.int .i64 (p1 : Int))) (by kernel_rfl) (c1) (fun hHeld => ?_)
      refine wTk 0 ⟨some 66, .move (.tmp 5), 3, "ref.go:130", #[], none⟩ rfl ?_
      refine wTk 1 ⟨some 67, .move (.tmp 1), 3, "ref.go:130", #[], none⟩ rfl ?_
      refine wTk 2 ⟨some 68, .binOp .gtr 3 (.tmp 66) (.tmp 67) 3, 4, "ref.go:130", #[⟨0, .data⟩, ⟨1, .data⟩], none⟩ rfl ?_
      refine wTk 3 ⟨some 69, .move (.tmp 68), 4, "ref.go:130", #[⟨2, .data⟩], none⟩ rfl ?_
      refine wSk 4 ⟨some 70, .move (.tmp 5), 3, "ref.go:130", #[⟨3, .guard⟩], some (3, false)⟩ rfl ?_
      refine wSk 5 ⟨some 71, .call ⟨.value (.func 36), #[.const (.slice none 0 0), .tmp 70], #[28, 3]⟩, 28, "ref.go:130", #[⟨4, .data⟩, ⟨3, .chain⟩, ⟨3, .guard⟩], some (3, false)⟩ rfl ?_
      refine wSk 6 ⟨some 72, .call ⟨.builtin .len, #[.tmp 71], #[28]⟩, 3, "ref.go:130", #[⟨5, .data⟩, ⟨3, .guard⟩], some (3, false)⟩ rfl ?_
      refine wSk 7 ⟨some 73, .move (.tmp 0), 137, "ref.go:130", #[⟨3, .guard⟩], some (3, false)⟩ rfl ?_
      refine wSk 8 ⟨some 74, .nilCheck (.tmp 73), 0, "ref.go:130", #[⟨7, .data⟩, ⟨3, .guard⟩], some (3, false)⟩ rfl ?_
      refine wSk 9 ⟨some 75, .fieldAddr 113 (.tmp 74) 1, 0, "ref.go:130", #[⟨8, .data⟩, ⟨3, .guard⟩], some (3, false)⟩ rfl ?_
      refine wSk 10 ⟨some 76, .load 3 (.tmp 75), 3, "ref.go:130", #[⟨9, .data⟩, ⟨3, .guard⟩], some (3, false)⟩ rfl ?_
      refine wSk 11 ⟨some 77, .move (.tmp 7), 3, "ref.go:130", #[⟨3, .guard⟩], some (3, false)⟩ rfl ?_
      refine wSk 12 ⟨some 78, .binOp .sub 3 (.tmp 76) (.tmp 77) 3, 3, "ref.go:130", #[⟨10, .data⟩, ⟨11, .data⟩, ⟨3, .guard⟩], some (3, false)⟩ rfl ?_
      refine wSk 13 ⟨some 79, .binOp .neq 3 (.tmp 72) (.tmp 78) 3, 4, "ref.go:130", #[⟨6, .data⟩, ⟨12, .data⟩, ⟨3, .guard⟩], some (3, false)⟩ rfl ?_
      refine wTk 14 ⟨some 80, .pick (.tmp 69) (.const (.bool true)) (.tmp 79), 4, "ref.go:130", #[⟨3, .data⟩, ⟨13, .data⟩], none⟩ rfl ?_
      refine wpAnyH_done (by kernel_rfl) ?_ _
      clear hHeld
      have HG5 := hide (HG4.out.below (below_drew1 wg))
      clear c0 c1 c2 fz
      generalize wg.drew = wh at HG5 ⊢
      obtain ⟨c0, c1, c2, fz⟩ := sc_cells HG5.out.box
      go_wp2_with fail
      go_ret
      exact HF.out _ HG5.out.setB
     ·have hmv2 : ¬ most < (v : Int) := hmv
      have HMv := hide hmv
      have hWk := HWk.out
      refine wp_region_held_drew (S := fun v => v.cell? ⟨g, 1, none⟩ = some (.int .i64 (p1 : Int))) (by kernel_rfl) (c1) (fun hHeld => ?_)
      refine wTk 0 ⟨some 66, .move (.tmp 5), 3, "ref.go:130", #[], none⟩ rfl ?_
      refine wTk 1 ⟨some 67, .move (.tmp 1), 3, "ref.go:130", #[], none⟩ rfl ?_
      refine wTk 2 ⟨some 68, .binOp .gtr 3 (.tmp 66) (.tmp 67) 3, 4, "ref.go:130", #[⟨0, .data⟩, ⟨1, .data⟩], none⟩ rfl ?_
      refine wTk 3 ⟨some 69, .move (.tmp 68), 4, "ref.go:130", #[⟨2, .data⟩], none⟩ rfl ?_
      refine wTk 4 ⟨some 70, .move (.tmp 5), 3, "ref.go:130", #[⟨3, .guard⟩], some (3, false)⟩ rfl ?_
      refine wTk 7 ⟨some 73, .move (.tmp 0), 137, "ref.go:130", #[⟨3, .guard⟩], some (3, false)⟩ rfl ?_
      refine wTk 8 ⟨some 74, .nilCheck (.tmp 73), 0, "ref.go:130", #[⟨7, .data⟩, ⟨3, .guard⟩], some (3, false)⟩ rfl ?_
      refine wTk 9 ⟨some 75, .fieldAddr 113 (.tmp 74) 1, 0, "ref.go:130", #[⟨8, .data⟩, ⟨3, .guard⟩], some (3, false)⟩ rfl ?_
      refine wTk 10 ⟨some 76, .load 3 (.tmp 75), 3, "ref.go:130", #[⟨9, .data⟩, ⟨3, .guard⟩], some (3, false)⟩ rfl ?_
      refine wTk 11 ⟨some 77, .move (.tmp 7), 3, "ref.go:130", #[⟨3, .guard⟩], some (3, false)⟩ rfl ?_
      refine wTk 12 ⟨some 78, .binOp .sub 3 (.tmp 76) (.tmp 77) 3, 3, "ref.go:130", #[⟨10, .data⟩, ⟨11, .data⟩, ⟨3, .guard⟩], some (3, false)⟩ rfl ?_
      refine wpAnyH_ready (rs := [5]) (by kernel_rfl) (by simp) (.cons rfl (fun K hK => ?_) .nil)
      go_simp
      go_wp2_with fail
      refine (U.rnum9_any none 0 0 [] v _ (U.BR.nil _) (by have := HvB.out; omega) (by omega)).mono ?_
      rintro e wh ⟨bo, cc, rfl, hRh, hAh⟩
      have hbh := (U.NewB.of_ap hAh).1
      have HG6 := hide ((HG4.out.below (below_drew1 wg)).below hbh)
      have c6 := (sc_cells HG6.out.box).2.1
      rw [Nat.zero_add]
      obtain ⟨ln, hln⟩ : ∃ ln, (U.numB v).length = ln := ⟨_, rfl⟩
      rw [hln]
      have HLn := hide hln
      refine hK.out _ _ c6 (fun hHeld => ?_)
      clear hK K hRh hAh hbh hln
      by_cases hlen0 : (U.numB v).length = k + 1
      ·have hlen := hide hlen0
       clear hlen0
       have HF : Hid (∀ V : World, Sg W V g q p1 false → NumS W V (.returned (.int .i64 (v : Int))) g q (sNum most (some (q.Z.drop a)))) := fun V hV => by
        rcases HC.out with ⟨h, -⟩ | ⟨h, -⟩ | ⟨-, -, h⟩
        ·exact absurd h (by have := HMv.out; omega)
        ·exact absurd hlen.out h
        ·rw [sNum_ok h, ← Hp1.out.1]; exact ⟨rfl, hV.good⟩
       have hle : ((ln : Int) != (kk : Int)) = false := by rw [← HLn.out, hlen.out, HKk.out]; simp
       refine wTk 6 ⟨some 72, .call ⟨.builtin .len, #[.tmp 71], #[28]⟩, 3, "ref.go:130", #[⟨5, .data⟩, ⟨3, .guard⟩], some (3, false)⟩ rfl ?_
       refine wTk 13 ⟨some 79, .binOp .neq 3 (.tmp 72) (.tmp 78) 3, 4, "ref.go:130", #[⟨6, .data⟩, ⟨12, .data⟩, ⟨3, .guard⟩], some (3, false)⟩ rfl ?_
       refine wTk 14 ⟨some 80, .pick (.tmp 69) (.const (.bool true)) (.tmp 79), 4, "ref.go:130", #[⟨3, .data⟩, ⟨13, .data⟩], none⟩ rfl ?_
       refine wpAnyH_done (by kernel_rfl) ?_ _
       clear hHeld
       go_wp2_with fail
       go_ret
       exact HF.out _ HG6.out
      ·have hlen := hide hlen0
       clear hlen0
       have HF : Hid (∀ V : World, Sg W V g q p1 true → NumS W V (.returned (.int .i64 0)) g q (sNum most (some (q.Z.drop a)))) := fun V hV => by
        rcases HC.out with ⟨h, -⟩ | ⟨-, h⟩ | ⟨-, h, -⟩
        ·exact absurd h (by have := HMv.out; omega)
        ·rw [sNum_bad h]; exact ⟨rfl, hV.bad⟩
        ·exact absurd h hlen.out
       have hle : ((ln : Int) != (kk : Int)) = true := by
        rw [bne_iff_ne]
        intro h
        exact hlen.out (by rw [HKk.out, HLn.out]; exact_mod_cast h)
       refine wTk 6 ⟨some 72, .call ⟨.builtin .len, #[.tmp 71], #[28]⟩, 3, "ref.go:130", #[⟨5, .data⟩, ⟨3, .guard⟩], some (3, false)⟩ rfl ?_
       refine wTk 13 ⟨some 79, .binOp .neq 3 (.tmp 72) (.tmp 78) 3, 4, "ref.go:130", #[⟨6, .data⟩, ⟨12, .data⟩, ⟨3, .guard⟩], some (3, false)⟩ rfl ?_
       refine wTk 14 ⟨some 80, .pick (.tmp 69) (.const (.bool true)) (.tmp 79), 4, "ref.go:130", #[⟨3, .data⟩, ⟨13, .data⟩], none⟩ rfl ?_
       refine wpAnyH_done (by kernel_rfl) ?_ _
       clear hHeld
       obtain ⟨c0, c1, c2, fz⟩ := sc_cells HG6.out.box
       go_wp2_with fail
       go_ret
       exact HF.out _ HG6.out.setB
    ·have HN := hide (HNN.out (Int.not_lt.1 hz1))
     go_wp2_with fail
     go_roundw
     case rel => exact ⟨k + 1, HK5.out.1, by rw [HE1.out, hw2], by rw [HU2.out, hw3], by simp, p1, Hp1.out.1.symm, HG4.out, HN.out⟩
     case measure => have := HK5.out.2; clear hw1 hw2 hw3 hpw; simp [intOf]; omega
end Go.Proofs.YtphohmoibnoeaaaGreat
