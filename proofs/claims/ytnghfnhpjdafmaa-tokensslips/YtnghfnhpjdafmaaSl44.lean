/- QFm -/
import Derived.Test.YtnghfnhpjdafmaaSl42
import Derived.Test.YtnghfnhpjdafmaaSl19
namespace Go.Proofs.Ytnghfnhpjdafmaa
open Go.RowKit

theorem tn_lo : ∀ (R : List Rn) (t : Nat), t < R.length → (tn R).getD (2 * t) 0 = (R.getD t rn0).lo ∧ (tn R).getD (2 * t + 1) 0 = (R.getD t rn0).hi + 1
  | [], t, h => by simp at h
  | r :: R, 0, _ => ⟨rfl, rfl⟩
  | r :: R, t + 1, h => by
    have ih := tn_lo R t (by simpa using h)
    have e1 : 2 * (t + 1) = 2 * t + 1 + 1 := by omega
    have e2 : 2 * (t + 1) + 1 = 2 * t + 1 + 1 + 1 := by omega
    rw [e1]
    simp only [tn, List.getD_cons_succ]
    exact ih
theorem rn_take (R : List Rn) (t : Nat) (h : t < R.length) : R.take (t + 1) = R.take t ++ [R.getD t rn0] := by
  rw [List.take_succ_eq_append_getElem h]
  simp [List.getD, h]
theorem form_gt : ∀ {R : List Rn} {l : Int}, form l R → ∀ t, t < R.length → l ≤ (R.getD t rn0).lo ∧ (R.getD t rn0).lo ≤ (R.getD t rn0).hi ∧ (R.getD t rn0).hi ≤ 1000000000
  | R, l, h, t, ht => by
    have hm : R.getD t rn0 ∈ R := by
      have : R.getD t rn0 = R[t] := by simp [List.getD, ht]
      rw [this]; exact List.getElem_mem ht
    exact form_bd h _ hm
theorem form_first {R : List Rn} (h : form 1 R) (t : Nat) (ht : t < R.length) (e : (R.getD t rn0).lo = 1) : t = 0 := by
  cases R with
  | nil => simp at ht
  | cons r R =>
    cases t with
    | zero => rfl
    | succ t =>
      exfalso
      have h1 := h.1
      have h2 := h.2.1
      have := (form_gt h.2.2.2 t (by simpa using ht)).1
      rw [List.getD_cons_succ] at e
      omega
/-- a run is taken: into the vector, or into the cloud -/
theorem lead_in {R : List Rn} (h : form 1 R) (t : Nat) (ht : t < R.length) (e : (R.getD t rn0).lo = 1) : leadOf (R.take t) = 0 ∧ leadOf (R.take (t + 1)) = (R.getD t rn0).hi ∧ restOf (R.take (t + 1)) = restOf (R.take t) ∧ 1 ≤ (R.getD t rn0).hi := by
  obtain rfl := form_first h t ht e
  rw [rn_take R 0 ht]
  have := (form_gt h 0 ht).2.1
  refine ⟨rfl, ?_, ?_, by omega⟩
  · simp only [List.take_zero, List.nil_append, leadOf]; rw [if_pos e]
  · simp only [List.take_zero, List.nil_append, restOf]; rw [if_pos e]
theorem rest_in {R : List Rn} (t : Nat) (ht : t < R.length) (e : ¬ (R.getD t rn0).lo = 1) : leadOf (R.take (t + 1)) = leadOf (R.take t) ∧ restOf (R.take (t + 1)) = restOf (R.take t) ++ [R.getD t rn0] := by
  rw [rn_take R t ht]
  generalize R.getD t rn0 = x at e
  cases hr : R.take t with
  | nil => simp [leadOf, restOf, e]
  | cons r q =>
    simp only [List.cons_append, leadOf, restOf, true_and]
    split <;> simp
theorem tag_snoc (r : Nat) (L : List Rn) (x : Rn) : tag r (L ++ [x]) = tag r L ++ [⟨(r : Int), x.lo, x.hi⟩] := by simp [tag]
/-- the vector: rows below y whole, row y as far as t runs -/
def vfn (N : Nat → List Rn) (y t q : Nat) : Int := if q < y then leadOf (N q) else if q = y then leadOf ((N y).take t) else 0
def vtop (N : Nat → List Rn) (y t : Nat) : Nat := if leadOf ((N y).take t) = 0 then V.topN (fun q => leadOf (N q)) y else y + 1
def vcl (N : Nat → List Rn) (y t : Nat) : List Sn := cloudN N y ++ tag y (restOf ((N y).take t))
theorem vtop_zero (N : Nat → List Rn) (y : Nat) : vtop N y 0 = V.topN (fun q => leadOf (N q)) y := by simp [vtop, leadOf]
theorem vtop_end (N : Nat → List Rn) (y : Nat) : vtop N y (N y).length = V.topN (fun q => leadOf (N q)) (y + 1) := by
  rw [vtop, List.take_length, V.topN]
theorem vcl_zero (N : Nat → List Rn) (y : Nat) : vcl N y 0 = cloudN N y := by simp [vcl, restOf, tag]
theorem vcl_end (N : Nat → List Rn) (y : Nat) : vcl N y (N y).length = cloudN N (y + 1) := by rw [vcl, List.take_length, cloudN]
theorem vfn_end (N : Nat → List Rn) (y q : Nat) : vfn N y (N y).length q = vfn N (y + 1) 0 q := by
  unfold vfn
  rw [List.take_length]
  by_cases h1 : q < y
  · rw [if_pos h1, if_pos (by omega)]
  · rw [if_neg h1]
    by_cases h2 : q = y
    · subst h2; rw [if_pos rfl, if_pos (by omega)]
    · rw [if_neg h2, if_neg (by omega)]
      by_cases h3 : q = y + 1
      · rw [if_pos h3]; simp [leadOf]
      · rw [if_neg h3]
theorem vfn_lead {N : Nat → List Rn} {y t : Nat} (h : form 1 (N y)) (ht : t < (N y).length) (e : ((N y).getD t rn0).lo = 1) (q : Nat) : vfn N y (t + 1) q = if q = y then ((N y).getD t rn0).hi else vfn N y t q := by
  unfold vfn
  rw [(lead_in h t ht e).2.1]
  by_cases h1 : q < y
  · rw [if_pos h1, if_neg (by omega), if_pos h1]
  · rw [if_neg h1]
    by_cases h2 : q = y
    · rw [if_pos h2, if_pos h2]
    · rw [if_neg h2, if_neg h2, if_neg h1, if_neg h2]
theorem vfn_rest {N : Nat → List Rn} {y t : Nat} (ht : t < (N y).length) (e : ¬ ((N y).getD t rn0).lo = 1) (q : Nat) : vfn N y (t + 1) q = vfn N y t q := by
  unfold vfn
  rw [(rest_in t ht e).1]
/-- sixteen numbers in a row -/
def V16 (f : Nat → Int) : Array Value := ((List.range 16).map (fun q => Value.int .i64 (f q))).toArray
theorem V16_size (f : Nat → Int) : (V16 f).size = 16 := by simp [V16]
theorem V16_congr {f g : Nat → Int} (h : ∀ q, f q = g q) : V16 f = V16 g := by unfold V16; rw [funext h]
theorem V16_set (f : Nat → Int) (y : Nat) (z : Int) : (V16 f).setIfInBounds y (.int .i64 z) = V16 (fun q => if q = y then z else f q) := by
  apply Array.ext
  · simp [V16]
  · intro i h1 h2
    simp [V16] at h2
    by_cases h : y = i
    · subst h; simp [V16]
    · have : ¬ i = y := fun e => h e.symm
      simp [V16, h, this]
theorem V16_zero : V16 (fun _ => 0) = #[.int .i64 0, .int .i64 0, .int .i64 0, .int .i64 0, .int .i64 0, .int .i64 0, .int .i64 0, .int .i64 0, .int .i64 0, .int .i64 0, .int .i64 0, .int .i64 0, .int .i64 0, .int .i64 0, .int .i64 0, .int .i64 0] := rfl
/-- Form's variables: the set, the result, the past that is made, the vector -/
structure FoI (w W : World) (T : Nat → Si) (f : Nat → Int) (co : Option Addr) (cn cc : Nat) (cl : List Sn) : Prop where
  a : ISets W w.heap.size 94 T
  z : PBox W (w.heap.size + 1) pv0
  p : PBox W (w.heap.size + 1 + 1) ⟨none, 0, 0, co, cn, cc, ⟨[], cl⟩⟩
  v : W.heap[w.heap.size + 1 + 1 + 1]? = some (.cells (V16 f) 3 (0, 0))
  o : OwnS w.heap.size (w.heap.size + 1 + 1 + 1 + 1) w W co cc cl
  l : cl.length = cn
theorem OwnS.set {B0 B : Nat} {w w' : World} {ao : Option Addr} {cap : Nat} {acc : List Sn} (O : OwnS B0 B w w' ao cap acc) {q t : Nat} {v : Value} (h1 : B0 ≤ q) (h2 : q < B) : OwnS B0 B w (w'.setCell ⟨q, t, none⟩ v) ao cap acc := by
  refine ⟨⟨O.own.1, ?_⟩, V.below_setCell O.below h1, by simpa [World.setCell] using O.hB, O.hB0⟩
  rcases O.own.2 with h | ⟨g, cap2, cur, hv, hbg, hgg, r⟩
  · exact Or.inl h
  · exact Or.inr ⟨g, cap2, cur, hv, hbg, (setCell_other (by omega)).trans hgg, r⟩
theorem FoI.congr {w W : World} {T : Nat → Si} {f f' : Nat → Int} {co : Option Addr} {cn cc : Nat} {cl cl' : List Sn} (I : FoI w W T f co cn cc cl) (h : ∀ q, f q = f' q) (hc : cl = cl') : FoI w W T f' co cn cc cl' := by
  obtain rfl : f = f' := funext h
  subst hc; exact I
theorem FoI.on {w W W' : World} {T : Nat → Si} {f : Nat → Int} {co : Option Addr} {cn cc : Nat} {cl : List Sn} (I : FoI w W T f co cn cc cl) (hb : Below W.heap.size W W') : FoI w W' T f co cn cc cl :=
  ⟨I.a.below hb, I.z.below hb, I.p.below hb, (hb.block _ (Array.getElem?_eq_some_iff.1 I.v).1).trans I.v, I.o.later hb, I.l⟩
/-- a number is put into the vector -/
theorem FoI.vset {w W : World} {T : Nat → Si} {f : Nat → Int} {co : Option Addr} {cn cc : Nat} {cl : List Sn} (I : FoI w W T f co cn cc cl) (y : Nat) (z : Int) : FoI w (W.setCell ⟨w.heap.size + 1 + 1 + 1, y, none⟩ (.int .i64 z)) T (fun q => if q = y then z else f q) co cn cc cl := by
  have hs : ∀ {q : Nat}, q ≠ w.heap.size + 1 + 1 + 1 → (W.setCell ⟨w.heap.size + 1 + 1 + 1, y, none⟩ (.int .i64 z)).heap[q]? = W.heap[q]? := fun h => setCell_other h
  refine ⟨(hs (by omega)).trans I.a, (hs (by omega)).trans I.z, (hs (by omega)).trans I.p, ?_, I.o.set (by omega) (by omega), I.l⟩
  have h := I.v
  simp [World.setCell, h, Array.getElem?_modify, V16_set]
/-- the cloud has grown, and its slice is stored -/
theorem FoI.cset {w W W2 : World} {T : Nat → Si} {f : Nat → Int} {co : Option Addr} {cn cc : Nat} {cl : List Sn} (I : FoI w W T f co cn cc cl) {g c2 : Nat} {e : Sn} (O : OwnS w.heap.size (w.heap.size + 1 + 1 + 1 + 1) w W2 (some ⟨g, 0, none⟩) c2 (cl ++ [e])) (hk : ∀ k, k < w.heap.size + 1 + 1 + 1 + 1 → W2.heap[k]? = W.heap[k]?) {v : Value} (hv : v = .slice (some ⟨g, 0, none⟩) (cn + 1) c2) :
    FoI w (W2.setCell ⟨w.heap.size + 1 + 1, 1, none⟩ v) T f (some ⟨g, 0, none⟩) (cn + 1) c2 (cl ++ [e]) := by
  subst hv
  have hs : ∀ {q : Nat}, q ≠ w.heap.size + 1 + 1 → (W2.setCell ⟨w.heap.size + 1 + 1, 1, none⟩ (.slice (some ⟨g, 0, none⟩) (cn + 1) c2)).heap[q]? = W2.heap[q]? := fun h => setCell_other h
  refine ⟨(hs (by omega)).trans ((hk _ (by omega)).trans I.a), (hs (by omega)).trans ((hk _ (by omega)).trans I.z), ?_, (hs (by omega)).trans ((hk _ (by omega)).trans I.v), O.set (by omega) (by omega), by rw [List.length_append, I.l]; rfl⟩
  have h := (hk _ (by omega)).trans I.p
  unfold PBox
  simp [World.setCell, h, Array.getElem?_modify, PC]
end Go.Proofs.Ytnghfnhpjdafmaa
