/- Pasts as sets of dots: which runs of a replica stand in them. -/
import Derived.Test.YtiogmeaianogmaaPSe
namespace Go.Proofs.Ytiogmeaianogmaa
open Go.RowKit

/-- what the vector says of a replica -/
def vecPart (z : Int) : List Rn := if 0 < z then [⟨1, z⟩] else []
def cloudPart (L : List Sn) (r : Nat) : List Rn := (L.filter (fun c => decide (c.rep = (r : Int)))).map (fun c => ⟨c.lo, c.hi⟩)
def runsAt (p : Pst) (r : Nat) : List Rn := vecPart (V.at' p.vec r) ++ cloudPart p.cloud r
def runsOf : List Pv → Nat → List Rn
  | [], _ => []
  | p :: X, r => runsAt p.P r ++ runsOf X r
def wt : List Pv → Nat
  | [] => 0
  | p :: X => 1 + p.P.cloud.length + wt X
theorem runsOf_append (X Y : List Pv) (r : Nat) : runsOf (X ++ Y) r = runsOf X r ++ runsOf Y r := by
  induction X with
  | nil => rfl
  | cons p X ih => simp only [List.cons_append, runsOf, ih, List.append_assoc]
theorem runsOf_one (p : Pv) (r : Nat) : runsOf [p] r = runsAt p.P r := by simp [runsOf]
theorem wt_append (X Y : List Pv) : wt (X ++ Y) = wt X + wt Y := by
  induction X with
  | nil => simp [wt]
  | cons p X ih => simp only [List.cons_append, wt, ih]; omega
theorem vecPart_len (z : Int) : (vecPart z).length ≤ 1 := by unfold vecPart; split <;> simp
theorem cloudPart_len (L : List Sn) (r : Nat) : (cloudPart L r).length ≤ L.length := by unfold cloudPart; rw [List.length_map]; exact List.length_filter_le _ _
theorem cloudPart_snoc (L : List Sn) (c : Sn) (r : Nat) : cloudPart (L ++ [c]) r = if c.rep = (r : Int) then cloudPart L r ++ [⟨c.lo, c.hi⟩] else cloudPart L r := by
  unfold cloudPart
  by_cases h : c.rep = (r : Int)
  · simp [h]
  · simp [h]
theorem runsOf_len (X : List Pv) (r : Nat) : (runsOf X r).length ≤ wt X := by
  induction X with
  | nil => simp [runsOf]
  | cons p X ih =>
    have h1 := vecPart_len (V.at' p.P.vec r)
    have h2 := cloudPart_len p.P.cloud r
    simp only [runsOf, runsAt, wt, List.length_append]
    omega
theorem take_onep {X : List Pv} {k : Nat} {p : Pv} (hs : X[k]? = some p) : X.take (k + 1) = X.take k ++ [p] := by
  rw [List.take_add_one, hs]; rfl
theorem wt_at {X : List Pv} {k : Nat} {p : Pv} (hs : X[k]? = some p) : wt (X.take k) + (1 + p.P.cloud.length) ≤ wt X := by
  have h := congrArg wt (List.take_append_drop (k + 1) X)
  rw [wt_append, take_onep hs, wt_append] at h
  simp only [wt] at h
  omega
/-- the sets so far: the result's variable, the sets', their rows; what the rows hold -/
structure SInv (w W : World) (F : Nat → Sl) (G : Nat → List Rn) : Prop where
  z : Sets W w.heap.size (fun _ => sl0)
  s : Sets W (w.heap.size + 1) F
  o : OwnA (w.heap.size + 2) W F
  l : ∀ r, r < 16 → (F r).L = G r
  b : Below w.heap.size w W
  h : w.heap.size + 2 ≤ W.heap.size
theorem SInv.on {w W W' : World} {F : Nat → Sl} {G : Nat → List Rn} (I : SInv w W F G) (hb : Below W.heap.size W W') : SInv w W' F G :=
  ⟨I.z.below hb, I.s.below hb, I.o.below hb, I.l, I.b.trans (hb.mono I.b.size), Nat.le_trans I.h hb.size⟩
theorem SInv.congr {w W : World} {F : Nat → Sl} {G G' : Nat → List Rn} (I : SInv w W F G) (h : ∀ r, r < 16 → G r = G' r) : SInv w W F G' :=
  ⟨I.z, I.s, I.o, fun r hr => (I.l r hr).trans (h r hr), I.b, I.h⟩
theorem SInv.len {w W : World} {F : Nat → Sl} {G : Nat → List Rn} (I : SInv w W F G) {r : Nat} (hr : r < 16) : (F r).n = (G r).length := by rw [← I.l r hr, I.o.len hr]
theorem SInv.off {w W : World} {F : Nat → Sl} {G : Nat → List Rn} (I : SInv w W F G) (q : Nat) (h : q < w.heap.size + 2 ∨ W.heap.size ≤ q) : Off F q := I.o.off q h
/-- behind an append the array is as it was -/
theorem SInv.mid {w W w2 : World} {F F' : Nat → Sl} {G : Nat → List Rn} (I : SInv w W F G) (h2 : ∀ q, q < W.heap.size → Off F q → w2.heap[q]? = W.heap[q]? ∧ Off F' q) : Sets w2 (w.heap.size + 1) F :=
  ((h2 _ (by have := I.h; omega) (I.off _ (Or.inl (by omega)))).1).trans I.s
theorem SInv.push {w W w2 : World} {F : Nat → Sl} {G : Nat → List Rn} (I : SInv w W F G) (k : Nat) (hk : k < 16) (e : Rn) (n cap2 g : Nat)
    (O2 : OwnA (w.heap.size + 2) w2 (Fset F k ⟨some ⟨g, 0, none⟩, n + 1, cap2, (F k).L ++ [e]⟩)) (h2 : ∀ q, q < W.heap.size → Off F q → w2.heap[q]? = W.heap[q]? ∧ Off (Fset F k ⟨some ⟨g, 0, none⟩, n + 1, cap2, (F k).L ++ [e]⟩) q) (h3 : W.heap.size < w2.heap.size) (h4 : ∀ n0 w0, n0 ≤ w.heap.size + 2 → Below n0 w0 W → Below n0 w0 w2) (v : Value) (hv : v = .slice (some ⟨g, 0, none⟩) (n + 1) cap2) :
    SInv w (w2.setCell ⟨w.heap.size + 1, k, none⟩ v) (Fset F k ⟨some ⟨g, 0, none⟩, n + 1, cap2, (F k).L ++ [e]⟩) (fun r => if r = k then G r ++ [e] else G r) := by
  have hh := I.h
  have other : ∀ q, q ≠ w.heap.size + 1 → (w2.setCell ⟨w.heap.size + 1, k, none⟩ v).heap[q]? = w2.heap[q]? := fun q hq => by
    simp [World.setCell, Array.getElem?_modify, show ¬ w.heap.size + 1 = q by omega]
  refine ⟨?_, (I.mid h2).set k _ v hv, O2.kept (fun q hq hno => other q (fun e => hno ?_)), fun r hr => ?_, ?_, ?_⟩
  · exact (other _ (by omega)).trans (((h2 _ (by omega) (I.off _ (Or.inl (by omega)))).1).trans I.z)
  · rw [e]; exact O2.off _ (Or.inl (by omega))
  · by_cases h : r = k
    · subst h; rw [Fset_same, if_pos rfl, ← I.l r hr]
    · rw [Fset_other _ _ _ _ h, if_neg h, ← I.l r hr]
  · exact V.below_setCell (h4 _ _ (by omega) I.b) (by simp)
  · have : (w2.setCell ⟨w.heap.size + 1, k, none⟩ v).heap.size = w2.heap.size := by simp [World.setCell]
    omega
/-- a block that is none of theirs stands -/
theorem keep_off {W w2 : World} {F F' : Nat → Sl} {q B k : Nat} {v : Value} (h2 : ∀ q, q < W.heap.size → Off F q → w2.heap[q]? = W.heap[q]? ∧ Off F' q) (hq : q < W.heap.size) (ho : Off F q) (hne : B ≠ q) : (w2.setCell ⟨B, k, none⟩ v).heap[q]? = W.heap[q]? ∧ Off F' q := by
  refine ⟨?_, (h2 q hq ho).2⟩
  rw [← (h2 q hq ho).1]
  simp [World.setCell, Array.getElem?_modify, hne]
theorem vec_step {A : Nat → List Rn} {f : Nat → Int} {j : Nat} {z : Int} (hz : f j = z) (h0 : 0 < z) (r : Nat) : (if r = j then (A r ++ (if r < j then vecPart (f r) else [])) ++ [⟨1, z⟩] else A r ++ (if r < j then vecPart (f r) else [])) = A r ++ (if r < j + 1 then vecPart (f r) else []) := by
  by_cases h : r = j
  · subst h; simp [vecPart, hz, h0]
  · by_cases h' : r < j
    · simp [h, h', show r < j + 1 by omega]
    · simp [h, h', show ¬ r < j + 1 by omega]
theorem vec_skip {A : Nat → List Rn} {f : Nat → Int} {j : Nat} {z : Int} (hz : f j = z) (h0 : ¬ 0 < z) (r : Nat) : A r ++ (if r < j then vecPart (f r) else []) = A r ++ (if r < j + 1 then vecPart (f r) else []) := by
  by_cases h : r = j
  · subst h; simp [vecPart, hz, h0]
  · by_cases h' : r < j
    · simp [h', show r < j + 1 by omega]
    · simp [h', show ¬ r < j + 1 by omega]
theorem cloud_step {A : Nat → List Rn} {L : List Sn} {c : Sn} {q : Nat} (hc : c.rep = (q : Int)) (r : Nat) : (if r = q then (A r ++ cloudPart L r) ++ [⟨c.lo, c.hi⟩] else A r ++ cloudPart L r) = A r ++ cloudPart (L ++ [c]) r := by
  rw [cloudPart_snoc]
  by_cases h : r = q
  · subst h; simp [hc]
  · have : ¬ c.rep = (r : Int) := by rw [hc]; omega
    simp [h, this]
theorem cloud_skip {A : Nat → List Rn} {L : List Sn} {c : Sn} (hc : V.isR c.rep = false) (r : Nat) (hr : r < 16) : A r ++ cloudPart L r = A r ++ cloudPart (L ++ [c]) r := by
  rw [cloudPart_snoc]
  have : ¬ c.rep = (r : Int) := by
    intro e
    rw [e] at hc
    simp [V.isR] at hc
    omega
  simp [this]
/-- rows that hold these runs, in blocks from lo on -/
structure RowsIn (lo : Nat) (W : World) (F : Nat → Sl) (G : Nat → List Rn) : Prop where
  src : ∀ r, r < 16 → RSrc W (F r).ao (F r).n (F r).cap (F r).L
  eq : ∀ r, r < 16 → (F r).L = G r
  lo : ∀ r, r < 16 → ∀ ad, (F r).ao = some ad → lo ≤ ad.block
  hi : ∀ r, r < 16 → ∀ ad, (F r).ao = some ad → ad.block < W.heap.size
theorem rsrc_off {w w' : World} {ao : Option Addr} {n c : Nat} {L : List Rn} (h : RSrc w ao n c L) (hk : ∀ ad, ao = some ad → w'.heap[ad.block]? = w.heap[ad.block]?) : RSrc w' ao n c L := by
  refine ⟨h.len, h.nil, fun ad ha t ht => ?_, h.cap, h.room, h.big⟩
  have A := h.cell ad ha t ht
  have e : ∀ m, w'.cell? (ad.add m) = w.cell? (ad.add m) := fun m => by unfold World.cell?; rw [block_add, hk ad ha]
  exact ⟨by rw [e]; exact A.c0, by have := A.c1; rw [add_add] at this ⊢; rw [e]; exact this⟩
theorem RowsIn.below {lo : Nat} {W W' : World} {F : Nat → Sl} {G : Nat → List Rn} (h : RowsIn lo W F G) (hb : Below W.heap.size W W') : RowsIn lo W' F G :=
  ⟨fun r hr => (h.src r hr).below hb, h.eq, h.lo, fun r hr ad e => Nat.lt_of_lt_of_le (h.hi r hr ad e) hb.size⟩
/-- none of them lies in the block g -/
def FarS (F : Nat → Sl) (g : Nat) : Prop := ∀ r, r < 16 → ∀ ad, (F r).ao = some ad → ad.block ≠ g
theorem RowsIn.off {lo : Nat} {W : World} {F : Nat → Sl} {G : Nat → List Rn} (h : RowsIn lo W F G) {g : Nat} (hg : FarS F g) (cs : Array Value) : RowsIn lo (W.setRow g cs) F G :=
  ⟨fun r hr => rsrc_off (h.src r hr) (fun ad e => setRow_other _ _ _ _ (hg r hr ad e)), h.eq, h.lo, fun r hr ad e => by have := h.hi r hr ad e; simpa [World.setRow] using this⟩
/-- the sets are handed back, in new memory; old memory stands -/
def GivesA (w w' : World) (e : Ending) (G : Nat → List Rn) : Prop := ∃ F, e = .returned (SAv F) ∧ RowsIn w.heap.size w' F G ∧ Below w.heap.size w w'
end Go.Proofs.Ytiogmeaianogmaa
