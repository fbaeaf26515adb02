/- DlogLists: what is where. -/
import Derived.Test.YtioioagomlpmeaaDAp
namespace Go.Proofs.Ytioioagomlpmeaa
open Go.RowKit
variable {w0 w w' w2 : World} {β : Nat × Nat → Option Nat} {al ar lo wo : Option Addr} {gl gr cl cr n lc wc k : Nat} {m nx s : Int} {Z A : List Int} {F W : List Sl} {X : Nat → List Int}

/-- log and reference say the same -/
structure Ag (m nx s : Int) (k : Nat) (Z A : List Int) : Prop where
  bd : Bd m nx Z
  rb : Rb m s k A
  nx : nx = s + A.length
  z : Z = A.drop k
theorem Ag.first (h : Ag m nx s k Z A) : nx - Z.length = s + k := by
  have := h.rb.k1
  rw [h.nx, h.z, List.length_drop]; omega
theorem Ag.push (h : Ag m nx s k Z A) (x : Int) (hl : A.length < 2000000) (hz : Z.length ≤ 64) : ∃ k' : Nat, (k' : Int) = max (k : Int) ((A.length : Int) + 1 - m) ∧ Ag m (nx + 1) s k' (pushed m nx Z x) (A ++ [x]) ∧ (pushed m nx Z x).length ≤ 64 := by
  have h1 := h.rb.k1
  have h2 := h.rb.m0
  have h3 := h.rb.m1
  have h4 := h.rb.s0
  have h5 := h.rb.s1
  have hf := h.first
  have hc := (cutN_le (nx + 1) (Z ++ [x]) (nx + 1 - m)).2
  have hd := (cutN_le (nx + 1) (Z ++ [x]) (nx + 1 - m)).1
  have hzl : Z.length = A.length - k := by rw [h.z, List.length_drop]
  unfold btw at hc
  simp only [List.length_append, List.length_singleton] at hc hd
  have hnx := h.nx
  have e1 : (A ++ [x]).drop k = Z ++ [x] := by rw [List.drop_append_of_le_length (by omega), ← h.z]
  have ep : pushed m nx Z x = (Z ++ [x]).drop (cutN (nx + 1) (Z ++ [x]) (nx + 1 - m)) := rfl
  obtain ⟨c, hcc⟩ : ∃ c, cutN (nx + 1) (Z ++ [x]) (nx + 1 - m) = c := ⟨_, rfl⟩
  rw [hcc] at hc hd ep
  have ek : ((k + c : Nat) : Int) = max (k : Int) ((A.length : Int) + 1 - m) := by push_cast at *; omega
  have ez : pushed m nx Z x = (A ++ [x]).drop (k + c) := by rw [ep, ← List.drop_drop, e1]
  have el : ((pushed m nx Z x).length : Int) = (A.length : Int) + 1 - max (k : Int) ((A.length : Int) + 1 - m) := by
    rw [ez, List.length_drop, List.length_append, List.length_singleton]; omega
  refine ⟨_, ek, ⟨⟨h2, h3, by omega, by omega, by omega⟩, ⟨h2, h3, h4, h5, by omega, by rw [List.length_append, List.length_singleton]; omega, by rw [List.length_append, List.length_singleton]; omega⟩, by rw [List.length_append, List.length_singleton, hnx]; push_cast; omega, ez⟩, by omega⟩
theorem Ag.trim (h : Ag m nx s k Z A) (n : Int) : cutN nx Z n = rcut s k A n ∧ Ag m nx s (k + cutN nx Z n) (Z.drop (cutN nx Z n)) A := by
  have h1 := h.rb.k1
  have hf := h.first
  have hc := (cutN_le nx Z n).2
  have hd := (cutN_le nx Z n).1
  have hzl : Z.length = A.length - k := by rw [h.z, List.length_drop]
  have hnx := h.nx
  unfold btw at hc
  have e : cutN nx Z n = rcut s k A n := by unfold rcut; omega
  refine ⟨e, ⟨h.bd.m0, h.bd.m1, by rw [List.length_drop]; have := h.bd.n0; omega, h.bd.n1, by rw [List.length_drop]; have := h.bd.l; omega⟩, ⟨h.rb.m0, h.rb.m1, h.rb.s0, h.rb.s1, by omega, by omega, h.rb.l⟩, hnx, ?_⟩
  generalize cutN nx Z n = c
  rw [h.z, List.drop_drop]
structure St (w0 w : World) (β : Nat × Nat → Option Nat) (gl : Nat) (m nx : Int) (Z : List Int) (al : Option Addr) (cl gr : Nat) (s : Int) (k : Nat) (A : List Int) (ar : Option Addr) (cr : Nat) (lo : Option Addr) (n lc : Nat) (F : List Sl) (wo : Option Addr) (wc : Nat) (W : List Sl) (X : Nat → List Int) : Prop where
  reg : Reg w β
  bel : Below w0.heap.size w0 w
  nw : ∀ x j, β x = some j → w0.heap.size ≤ j
  lg : Lg w0.heap.size w gl m nx Z al cl
  n0 : β (4, 0) = some gl
  n1 : β (4, 1) = blk al
  rf : Rf w0.heap.size w gr m s k A ar cr
  n2 : β (4, 2) = some gr
  n3 : β (4, 3) = blk ar
  so : SO 34 w lo n lc F
  o0 : β (0, 0) = blk lo
  rows : ∀ q, q < n → IR w (fr F q).a (fr F q).n (fr F q).c (X q) ∧ β (1, q) = blk (fr F q).a
  sw : SO 34 w wo n wc W
  o5 : β (0, 5) = blk wo
  wr : ∀ q, q < n → IR w (fr W q).a (fr W q).n (fr W q).c (X q) ∧ β (2, q) = blk (fr W q).a
theorem blk_of {ao : Option Addr} {ad : Addr} (h : ao = some ad) : blk ao = some ad.block := by rw [h]; rfl
theorem St.below (h : St w0 w β gl m nx Z al cl gr s k A ar cr lo n lc F wo wc W X) (hb : Below w.heap.size w w') : St w0 w' β gl m nx Z al cl gr s k A ar cr lo n lc F wo wc W X :=
  ⟨h.reg.below hb, h.bel.trans (hb.mono h.bel.size), h.nw, h.lg.below hb, h.n0, h.n1, h.rf.below hb, h.n2, h.n3, h.so.keep fun j e => hb.block j (h.so.lt j e), h.o0, fun q hq => ⟨(h.rows q hq).1.below hb, (h.rows q hq).2⟩, h.sw.keep fun j e => hb.block j (h.sw.lt j e), h.o5, fun q hq => ⟨(h.wr q hq).1.below hb, (h.wr q hq).2⟩⟩
/-- a call that writes a box and its row alone -/
theorem Reg.kp {g : Nat} {ao bo : Option Addr} (h : Reg w β) (K : Kp w w' g ao) (N : Nw w ao bo) (x y : Nat × Nat) (hx : β x = some g) (hy : β y = blk ao) (hlt : ∀ ad, bo = some ad → ad.block < w'.heap.size) :
    Reg w' (upd β y (blk bo)) ∧ ∀ z, z ≠ x → z ≠ y → ∀ j, β z = some j → w'.heap[j]? = w.heap[j]? := by
  have h' : Reg w' β := ⟨fun z j e => Nat.lt_of_lt_of_le (h.lt z j e) K.size, h.inj⟩
  refine ⟨h'.put y _ (fun j e => ?_) (fun j e z hz f => ?_), fun z hzx hzy j e => K.block j (h.lt z j e) (fun e2 => hzx (h.inj z x j e (by rw [hx, e2]))) (fun ad ha e2 => hzy (h.inj z y j e (by rw [hy, blk_of ha, e2])))⟩
  · cases bo with
    | none => cases e
    | some ad => have := hlt ad rfl; have : ad.block = j := Option.some.inj e; omega
  · cases bo with
    | none => cases e
    | some ad =>
      have e' : ad.block = j := Option.some.inj e
      rcases N ad rfl with ⟨ad', ha, hb⟩ | hb
      · exact hz (h.inj z y j f (by rw [hy, blk_of ha, hb, e']))
      · have := h.lt z j f; omega
theorem St.log {m' nx' : Int} {Z' : List Int} {al' : Option Addr} {cl' : Nat} (h : St w0 w β gl m nx Z al cl gr s k A ar cr lo n lc F wo wc W X) (L : Lg w0.heap.size w' gl m' nx' Z' al' cl') (K : Kp w w' gl al) (N : Nw w al al') :
    ∃ β', (∀ z, z ≠ (4, 1) → β' z = β z) ∧ Reg w' β' ∧ Below w0.heap.size w0 w' ∧ (∀ x j, β' x = some j → w0.heap.size ≤ j) ∧ β' (4, 1) = blk al' ∧ ∀ z, z ≠ (4, 0) → z ≠ (4, 1) → ∀ j, β z = some j → w'.heap[j]? = w.heap[j]? := by
  obtain ⟨r1, r2⟩ := h.reg.kp K N (4, 0) (4, 1) h.n0 h.n1 (fun ad e => (L.row ad e).2)
  refine ⟨upd β (4, 1) (blk al'), fun z hz => upd_ne hz, r1, K.below h.bel h.lg.hg (fun ad e => (h.lg.row ad e).1) h.bel.size, fun x j e => ?_, upd_at _ _ _, r2⟩
  by_cases hx : x = (4, 1)
  · rw [hx, upd_at] at e
    cases hal : al' with
    | none => rw [hal] at e; cases e
    | some ad => rw [hal] at e; have := (L.row ad hal).1; have : ad.block = j := Option.some.inj e; omega
  · rw [upd_ne hx] at e; exact h.nw x j e
end Go.Proofs.Ytioioagomlpmeaa
