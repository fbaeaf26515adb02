/- Regions that draw their order, with calls that answer pasts, literals and variables that are made: what holds at every moment. -/
import Derived.Test.YtojpjakpcihacaaGreatPNm
import Derived.Test.YtojpjakpcihacaaGreatPRg
import Derived.Test.YtojpjakpcihacaaGreatPSm

namespace Go.Proofs.YtojpjakpcihacaaGreat
open Go.RowKit

abbrev ptr (g : Nat) : Value := .pointer (some ⟨g, 0, none⟩)
def sl00 : Nat → Sl := fun _ => sl0
structure TwoI (wk : World) (pa pb : Pv) (l : Array Bool) (W : World) (va xa ca vb xb cb ba bb : Value) : Prop where
  sz : l.size = 10
  b : Below wk.heap.size wk W
  h0 : l.getD 0 false = true → va = PV pa
  h1 : l.getD 1 false = true → l.getD 8 false = false → ∃ g, xa = .slice (some ⟨g, 0, none⟩) 1 1 ∧ PRow W (some ⟨g, 0, none⟩) 1 [pa]
  h2 : l.getD 2 false = true → ∃ F, ca = SAv F ∧ RowsIn wk.heap.size W F (runsOf [pa]) ∧ (l.getD 6 false = true → ∀ g, ba = ptr g → FarS F g) ∧ (l.getD 7 false = true → ∀ g, bb = ptr g → FarS F g)
  h3 : l.getD 3 false = true → vb = PV pb
  h4 : l.getD 4 false = true → l.getD 8 false = false → ∃ g, xb = .slice (some ⟨g, 0, none⟩) 1 1 ∧ PRow W (some ⟨g, 0, none⟩) 1 [pb]
  h5 : l.getD 5 false = true → ∃ F, cb = SAv F ∧ RowsIn wk.heap.size W F (runsOf [pb]) ∧ (l.getD 6 false = true → ∀ g, ba = ptr g → FarS F g) ∧ (l.getD 7 false = true → ∀ g, bb = ptr g → FarS F g)
  h6 : l.getD 6 false = true → ∃ g, ba = ptr g ∧ wk.heap.size ≤ g ∧ g < W.heap.size ∧ (l.getD 8 false = false → Sets W g sl00) ∧ (l.getD 8 false = true → ∀ F, ca = SAv F → Sets W g F)
  h7 : l.getD 7 false = true → ∃ g, bb = ptr g ∧ wk.heap.size ≤ g ∧ g < W.heap.size ∧ (l.getD 9 false = false → Sets W g sl00) ∧ (l.getD 9 false = true → ∀ F, cb = SAv F → Sets W g F)
  h67 : l.getD 6 false = true → l.getD 7 false = true → ba ≠ bb
  c8 : l.getD 8 false = true → l.getD 2 false = true ∧ l.getD 5 false = true ∧ l.getD 6 false = true ∧ l.getD 7 false = true
  c9 : l.getD 9 false = true → l.getD 5 false = true ∧ l.getD 7 false = true
section
variable {wk : World} {pa pb : Pv} {l : Array Bool} {W W' : World} {va xa ca vb xb cb ba bb : Value}
theorem SA_inj {F G : Nat → Sl} (h : SAv F = SAv G) : SA F = SA G := by injection h
theorem Sets.same {w : World} {g : Nat} {F G : Nat → Sl} (h : Sets w g F) (e : SAv G = SAv F) : Sets w g G := by unfold Sets at h ⊢; rw [SA_inj e]; exact h
theorem FarS.lo {lo : Nat} {F : Nat → Sl} {G : Nat → List Rn} (h : RowsIn lo W F G) {g : Nat} (hg : g < lo) : FarS F g := fun r hr ad e => by have := h.lo r hr ad e; omega
theorem FarS.hi {lo : Nat} {F : Nat → Sl} {G : Nat → List Rn} (h : RowsIn lo W F G) : FarS F W.heap.size := fun r hr ad e => by have := h.hi r hr ad e; omega
theorem ptr_inj {g g' : Nat} (h : ptr g = ptr g') : g = g' := by simpa [ptr] using h
/-- the world goes on, nothing is done of these -/
theorem TwoI.on (T : TwoI wk pa pb l W va xa ca vb xb cb ba bb) (hb : Below W.heap.size W W') : TwoI wk pa pb l W' va xa ca vb xb cb ba bb := by
  refine ⟨T.sz, T.b.trans (hb.mono T.b.size), T.h0, fun h h' => ?_, fun h => ?_, T.h3, fun h h' => ?_, fun h => ?_, fun h => ?_, fun h => ?_, T.h67, T.c8, T.c9⟩
  · obtain ⟨g, e, R⟩ := T.h1 h h'; exact ⟨g, e, R.below hb⟩
  · obtain ⟨F, e, R, f⟩ := T.h2 h; exact ⟨F, e, R.below hb, f⟩
  · obtain ⟨g, e, R⟩ := T.h4 h h'; exact ⟨g, e, R.below hb⟩
  · obtain ⟨F, e, R, f⟩ := T.h5 h; exact ⟨F, e, R.below hb, f⟩
  · obtain ⟨g, e, h1, h2, h3, h4⟩ := T.h6 h; exact ⟨g, e, h1, Nat.lt_of_lt_of_le h2 hb.size, fun q => (h3 q).below hb, fun q F e => (h4 q F e).below hb⟩
  · obtain ⟨g, e, h1, h2, h3, h4⟩ := T.h7 h; exact ⟨g, e, h1, Nat.lt_of_lt_of_le h2 hb.size, fun q => (h3 q).below hb, fun q F e => (h4 q F e).below hb⟩
theorem TwoI.s0 (T : TwoI wk pa pb l W va xa ca vb xb cb ba bb) : TwoI wk pa pb (l.setIfInBounds 0 true) W (PV pa) xa ca vb xb cb ba bb := by
  refine ⟨by simpa using T.sz, T.b, fun _ => rfl, ?_, ?_, ?_, ?_, ?_, ?_, ?_, ?_, ?_, ?_⟩ <;> simp only [set_other (show (0 : Nat) ≠ 1 by decide), set_other (show (0 : Nat) ≠ 2 by decide), set_other (show (0 : Nat) ≠ 3 by decide), set_other (show (0 : Nat) ≠ 4 by decide), set_other (show (0 : Nat) ≠ 5 by decide), set_other (show (0 : Nat) ≠ 6 by decide), set_other (show (0 : Nat) ≠ 7 by decide), set_other (show (0 : Nat) ≠ 8 by decide), set_other (show (0 : Nat) ≠ 9 by decide)]
  · exact T.h1
  · exact T.h2
  · exact T.h3
  · exact T.h4
  · exact T.h5
  · exact T.h6
  · exact T.h7
  · exact T.h67
  · exact fun h => by have := T.c8 h; simp [this]
  · exact fun h => by have := T.c9 h; simp [this]
theorem TwoI.s3 (T : TwoI wk pa pb l W va xa ca vb xb cb ba bb) : TwoI wk pa pb (l.setIfInBounds 3 true) W va xa ca (PV pb) xb cb ba bb := by
  refine ⟨by simpa using T.sz, T.b, ?_, ?_, ?_, fun _ => rfl, ?_, ?_, ?_, ?_, ?_, ?_, ?_⟩ <;> simp only [set_other (show (3 : Nat) ≠ 0 by decide), set_other (show (3 : Nat) ≠ 1 by decide), set_other (show (3 : Nat) ≠ 2 by decide), set_other (show (3 : Nat) ≠ 4 by decide), set_other (show (3 : Nat) ≠ 5 by decide), set_other (show (3 : Nat) ≠ 6 by decide), set_other (show (3 : Nat) ≠ 7 by decide), set_other (show (3 : Nat) ≠ 8 by decide), set_other (show (3 : Nat) ≠ 9 by decide)]
  · exact T.h0
  · exact T.h1
  · exact T.h2
  · exact T.h4
  · exact T.h5
  · exact T.h6
  · exact T.h7
  · exact T.h67
  · exact fun h => by have := T.c8 h; simp [this]
  · exact fun h => by have := T.c9 h; simp [this]
theorem TwoI.s1 (T : TwoI wk pa pb l W va xa ca vb xb cb ba bb) (hS : PSrc W pa) : TwoI wk pa pb (l.setIfInBounds 1 true) (W.alloc (.cells (PC pa) 25)) va (.slice (some ⟨W.heap.size, 0, none⟩) 1 1) ca vb xb cb ba bb := by
  have T := T.on (below_new W (.cells (PC pa) 25))
  refine ⟨by simpa using T.sz, T.b, ?_, fun _ _ => ⟨_, rfl, prow_one W pa hS⟩, ?_, ?_, ?_, ?_, ?_, ?_, ?_, ?_, ?_⟩ <;> simp only [set_other (show (1 : Nat) ≠ 0 by decide), set_other (show (1 : Nat) ≠ 2 by decide), set_other (show (1 : Nat) ≠ 3 by decide), set_other (show (1 : Nat) ≠ 4 by decide), set_other (show (1 : Nat) ≠ 5 by decide), set_other (show (1 : Nat) ≠ 6 by decide), set_other (show (1 : Nat) ≠ 7 by decide), set_other (show (1 : Nat) ≠ 8 by decide), set_other (show (1 : Nat) ≠ 9 by decide)]
  · exact T.h0
  · exact T.h2
  · exact T.h3
  · exact T.h4
  · exact T.h5
  · exact T.h6
  · exact T.h7
  · exact T.h67
  · exact fun h => by have := T.c8 h; simp [this]
  · exact fun h => by have := T.c9 h; simp [this]
theorem TwoI.s4 (T : TwoI wk pa pb l W va xa ca vb xb cb ba bb) (hS : PSrc W pb) : TwoI wk pa pb (l.setIfInBounds 4 true) (W.alloc (.cells (PC pb) 25)) va xa ca vb (.slice (some ⟨W.heap.size, 0, none⟩) 1 1) cb ba bb := by
  have T := T.on (below_new W (.cells (PC pb) 25))
  refine ⟨by simpa using T.sz, T.b, ?_, ?_, ?_, ?_, fun _ _ => ⟨_, rfl, prow_one W pb hS⟩, ?_, ?_, ?_, ?_, ?_, ?_⟩ <;> simp only [set_other (show (4 : Nat) ≠ 0 by decide), set_other (show (4 : Nat) ≠ 1 by decide), set_other (show (4 : Nat) ≠ 2 by decide), set_other (show (4 : Nat) ≠ 3 by decide), set_other (show (4 : Nat) ≠ 5 by decide), set_other (show (4 : Nat) ≠ 6 by decide), set_other (show (4 : Nat) ≠ 7 by decide), set_other (show (4 : Nat) ≠ 8 by decide), set_other (show (4 : Nat) ≠ 9 by decide)]
  · exact T.h0
  · exact T.h1
  · exact T.h2
  · exact T.h3
  · exact T.h5
  · exact T.h6
  · exact T.h7
  · exact T.h67
  · exact fun h => by have := T.c8 h; simp [this]
  · exact fun h => by have := T.c9 h; simp [this]
theorem TwoI.s2 (T : TwoI wk pa pb l W va xa ca vb xb cb ba bb) (h8 : l.getD 8 false = false) {F : Nat → Sl} (R : RowsIn W.heap.size W' F (runsOf [pa])) (hb : Below W.heap.size W W') : TwoI wk pa pb (l.setIfInBounds 2 true) W' va xa (SAv F) vb xb cb ba bb := by
  have hl := T.b.size
  have T' := T.on hb
  have f6 : l.getD 6 false = true → ∀ g, ba = ptr g → FarS F g := fun h g e => by
    obtain ⟨g', e', _, h2, _⟩ := T.h6 h
    obtain rfl := ptr_inj (e.symm.trans e')
    exact FarS.lo R h2
  have f7 : l.getD 7 false = true → ∀ g, bb = ptr g → FarS F g := fun h g e => by
    obtain ⟨g', e', _, h2, _⟩ := T.h7 h
    obtain rfl := ptr_inj (e.symm.trans e')
    exact FarS.lo R h2
  refine ⟨by simpa using T.sz, T'.b, ?_, ?_, ?_, ?_, ?_, ?_, ?_, ?_, ?_, ?_, ?_⟩ <;> simp only [set_same (show 2 < l.size by rw [T.sz]; decide), set_other (show (2 : Nat) ≠ 0 by decide), set_other (show (2 : Nat) ≠ 1 by decide), set_other (show (2 : Nat) ≠ 3 by decide), set_other (show (2 : Nat) ≠ 4 by decide), set_other (show (2 : Nat) ≠ 5 by decide), set_other (show (2 : Nat) ≠ 6 by decide), set_other (show (2 : Nat) ≠ 7 by decide), set_other (show (2 : Nat) ≠ 8 by decide), set_other (show (2 : Nat) ≠ 9 by decide)]
  · exact T'.h0
  · exact T'.h1
  · exact fun _ => ⟨F, rfl, ⟨R.src, R.eq, fun r hr ad e => Nat.le_trans hl (R.lo r hr ad e), R.hi⟩, f6, f7⟩
  · exact T'.h3
  · exact T'.h4
  · exact T'.h5
  · intro h
    obtain ⟨g, e, h1, h2, h3, _⟩ := T'.h6 h
    exact ⟨g, e, h1, h2, h3, fun q => absurd q (by rw [h8]; decide)⟩
  · exact T'.h7
  · exact T'.h67
  · exact fun h => by have := T.c8 h; simp [this]
  · exact fun h => by have := T.c9 h; simp [this]
theorem TwoI.s5 (T : TwoI wk pa pb l W va xa ca vb xb cb ba bb) (h9 : l.getD 9 false = false) {F : Nat → Sl} (R : RowsIn W.heap.size W' F (runsOf [pb])) (hb : Below W.heap.size W W') : TwoI wk pa pb (l.setIfInBounds 5 true) W' va xa ca vb xb (SAv F) ba bb := by
  have hl := T.b.size
  have T' := T.on hb
  have f6 : l.getD 6 false = true → ∀ g, ba = ptr g → FarS F g := fun h g e => by
    obtain ⟨g', e', _, h2, _⟩ := T.h6 h
    obtain rfl := ptr_inj (e.symm.trans e')
    exact FarS.lo R h2
  have f7 : l.getD 7 false = true → ∀ g, bb = ptr g → FarS F g := fun h g e => by
    obtain ⟨g', e', _, h2, _⟩ := T.h7 h
    obtain rfl := ptr_inj (e.symm.trans e')
    exact FarS.lo R h2
  refine ⟨by simpa using T.sz, T'.b, ?_, ?_, ?_, ?_, ?_, ?_, ?_, ?_, ?_, ?_, ?_⟩ <;> simp only [set_same (show 5 < l.size by rw [T.sz]; decide), set_other (show (5 : Nat) ≠ 0 by decide), set_other (show (5 : Nat) ≠ 1 by decide), set_other (show (5 : Nat) ≠ 2 by decide), set_other (show (5 : Nat) ≠ 3 by decide), set_other (show (5 : Nat) ≠ 4 by decide), set_other (show (5 : Nat) ≠ 6 by decide), set_other (show (5 : Nat) ≠ 7 by decide), set_other (show (5 : Nat) ≠ 8 by decide), set_other (show (5 : Nat) ≠ 9 by decide)]
  · exact T'.h0
  · exact T'.h1
  · exact T'.h2
  · exact T'.h3
  · exact T'.h4
  · exact fun _ => ⟨F, rfl, ⟨R.src, R.eq, fun r hr ad e => Nat.le_trans hl (R.lo r hr ad e), R.hi⟩, f6, f7⟩
  · exact T'.h6
  · intro h
    obtain ⟨g, e, h1, h2, h3, _⟩ := T'.h7 h
    exact ⟨g, e, h1, h2, h3, fun q => absurd q (by rw [h9]; decide)⟩
  · exact T'.h67
  · exact fun h => by have := T.c8 h; simp [this]
  · exact fun h => by have := T.c9 h; simp [this]
theorem TwoI.s6 (T : TwoI wk pa pb l W va xa ca vb xb cb ba bb) (h8 : l.getD 8 false = false) : TwoI wk pa pb (l.setIfInBounds 6 true) (W.alloc (.cells (SA sl00) 79)) va xa ca vb xb cb (ptr W.heap.size) bb := by
  have hl := T.b.size
  have T' := T.on (below_new W (.cells (SA sl00) 79))
  have n7 : l.getD 7 false = true → ptr W.heap.size ≠ bb := fun h e => by
    obtain ⟨g', e', _, h2, _⟩ := T.h7 h
    have := ptr_inj (e.trans e')
    omega
  refine ⟨by simpa using T.sz, T'.b, ?_, ?_, ?_, ?_, ?_, ?_, ?_, ?_, ?_, ?_, ?_⟩ <;> simp only [set_same (show 6 < l.size by rw [T.sz]; decide), set_other (show (6 : Nat) ≠ 0 by decide), set_other (show (6 : Nat) ≠ 1 by decide), set_other (show (6 : Nat) ≠ 2 by decide), set_other (show (6 : Nat) ≠ 3 by decide), set_other (show (6 : Nat) ≠ 4 by decide), set_other (show (6 : Nat) ≠ 5 by decide), set_other (show (6 : Nat) ≠ 7 by decide), set_other (show (6 : Nat) ≠ 8 by decide), set_other (show (6 : Nat) ≠ 9 by decide)]
  · exact T'.h0
  · exact T'.h1
  · intro h
    obtain ⟨F, e, R, _, f7⟩ := T.h2 h
    exact ⟨F, e, R.below (below_new _ _), fun _ g eg => by obtain rfl := ptr_inj eg; exact FarS.hi R, f7⟩
  · exact T'.h3
  · exact T'.h4
  · intro h
    obtain ⟨F, e, R, _, f7⟩ := T.h5 h
    exact ⟨F, e, R.below (below_new _ _), fun _ g eg => by obtain rfl := ptr_inj eg; exact FarS.hi R, f7⟩
  · exact fun _ => ⟨_, rfl, hl, by simp, fun _ => sets_new W sl00, fun q => absurd q (by rw [h8]; decide)⟩
  · exact T'.h7
  · exact fun _ => n7
  · exact fun h => by have := T.c8 h; simp [this]
  · exact fun h => by have := T.c9 h; simp [this]
theorem TwoI.s7 (T : TwoI wk pa pb l W va xa ca vb xb cb ba bb) (h9 : l.getD 9 false = false) : TwoI wk pa pb (l.setIfInBounds 7 true) (W.alloc (.cells (SA sl00) 79)) va xa ca vb xb cb ba (ptr W.heap.size) := by
  have hl := T.b.size
  have T' := T.on (below_new W (.cells (SA sl00) 79))
  have n6 : l.getD 6 false = true → ba ≠ ptr W.heap.size := fun h e => by
    obtain ⟨g', e', _, h2, _⟩ := T.h6 h
    have := ptr_inj (e.symm.trans e')
    omega
  refine ⟨by simpa using T.sz, T'.b, ?_, ?_, ?_, ?_, ?_, ?_, ?_, ?_, ?_, ?_, ?_⟩ <;> simp only [set_same (show 7 < l.size by rw [T.sz]; decide), set_other (show (7 : Nat) ≠ 0 by decide), set_other (show (7 : Nat) ≠ 1 by decide), set_other (show (7 : Nat) ≠ 2 by decide), set_other (show (7 : Nat) ≠ 3 by decide), set_other (show (7 : Nat) ≠ 4 by decide), set_other (show (7 : Nat) ≠ 5 by decide), set_other (show (7 : Nat) ≠ 6 by decide), set_other (show (7 : Nat) ≠ 8 by decide), set_other (show (7 : Nat) ≠ 9 by decide)]
  · exact T'.h0
  · exact T'.h1
  · intro h
    obtain ⟨F, e, R, f6, _⟩ := T.h2 h
    exact ⟨F, e, R.below (below_new _ _), f6, fun _ g eg => by obtain rfl := ptr_inj eg; exact FarS.hi R⟩
  · exact T'.h3
  · exact T'.h4
  · intro h
    obtain ⟨F, e, R, f6, _⟩ := T.h5 h
    exact ⟨F, e, R.below (below_new _ _), f6, fun _ g eg => by obtain rfl := ptr_inj eg; exact FarS.hi R⟩
  · exact T'.h6
  · exact fun _ => ⟨_, rfl, hl, by simp, fun _ => sets_new W sl00, fun q => absurd q (by rw [h9]; decide)⟩
  · exact fun h _ => n6 h
  · exact fun h => by have := T.c8 h; simp [this]
  · exact fun h => by have := T.c9 h; simp [this]
theorem TwoI.s8 (T : TwoI wk pa pb l W va xa ca vb xb cb ba bb) (h2 : l.getD 2 false = true) (h5 : l.getD 5 false = true) (h6 : l.getD 6 false = true) (h7 : l.getD 7 false = true) (h8 : l.getD 8 false = false) :
    ∃ F g, ca = SAv F ∧ ba = ptr g ∧ Sets W g sl00 ∧ TwoI wk pa pb (l.setIfInBounds 8 true) (W.setRow g (SA F)) va xa ca vb xb cb ba bb := by
  obtain ⟨F, eF, RF, f6, f7⟩ := T.h2 h2
  obtain ⟨g, eg, g1, g2, g3, _⟩ := T.h6 h6
  refine ⟨F, g, eF, eg, g3 h8, ?_⟩
  have hz : ∀ cs : Array Value, (W.setRow g cs).heap.size = W.heap.size := fun cs => by simp [World.setRow]
  refine ⟨by simpa using T.sz, below_setRow T.b g1, ?_, ?_, ?_, ?_, ?_, ?_, ?_, ?_, ?_, ?_, ?_⟩ <;> simp only [set_same (show 8 < l.size by rw [T.sz]; decide), set_other (show (8 : Nat) ≠ 0 by decide), set_other (show (8 : Nat) ≠ 1 by decide), set_other (show (8 : Nat) ≠ 2 by decide), set_other (show (8 : Nat) ≠ 3 by decide), set_other (show (8 : Nat) ≠ 4 by decide), set_other (show (8 : Nat) ≠ 5 by decide), set_other (show (8 : Nat) ≠ 6 by decide), set_other (show (8 : Nat) ≠ 7 by decide), set_other (show (8 : Nat) ≠ 9 by decide)]
  · exact T.h0
  · exact fun _ h => by cases h
  · exact fun h => ⟨F, eF, RF.off (f6 h6 g eg) _, f6, f7⟩
  · exact T.h3
  · exact fun _ h => by cases h
  · intro h
    obtain ⟨G, eG, RG, k6, k7⟩ := T.h5 h
    exact ⟨G, eG, RG.off (k6 h6 g eg) _, k6, k7⟩
  · exact fun _ => ⟨g, eg, g1, by rw [hz]; exact g2, fun h => (by cases h), fun _ F' e' => ((g3 h8).setRow (F' := F)).same (e'.symm.trans eF)⟩
  · intro h
    obtain ⟨g', e', k1, k2, k3, k4⟩ := T.h7 h
    have hne : g' ≠ g := fun e => T.h67 h6 h (by rw [eg, e', e])
    exact ⟨g', e', k1, by rw [hz]; exact k2, fun q => (setRow_other _ _ _ _ hne).trans (k3 q), fun q G eG => (setRow_other _ _ _ _ hne).trans (k4 q G eG)⟩
  · exact T.h67
  · exact fun _ => by simp [h2, h5, h6, h7]
  · exact fun h => by have := T.c9 h; simp [this]
theorem TwoI.s9 (T : TwoI wk pa pb l W va xa ca vb xb cb ba bb) (h5 : l.getD 5 false = true) (h7 : l.getD 7 false = true) (h8 : l.getD 8 false = true) (h9 : l.getD 9 false = false) :
    ∃ F g, cb = SAv F ∧ bb = ptr g ∧ Sets W g sl00 ∧ TwoI wk pa pb (l.setIfInBounds 9 true) (W.setRow g (SA F)) va xa ca vb xb cb ba bb := by
  obtain ⟨F, eF, RF, f6, f7⟩ := T.h5 h5
  obtain ⟨g, eg, g1, g2, g3, _⟩ := T.h7 h7
  refine ⟨F, g, eF, eg, g3 h9, ?_⟩
  have hz : ∀ cs : Array Value, (W.setRow g cs).heap.size = W.heap.size := fun cs => by simp [World.setRow]
  refine ⟨by simpa using T.sz, below_setRow T.b g1, ?_, ?_, ?_, ?_, ?_, ?_, ?_, ?_, ?_, ?_, ?_⟩ <;> simp only [set_same (show 9 < l.size by rw [T.sz]; decide), set_other (show (9 : Nat) ≠ 0 by decide), set_other (show (9 : Nat) ≠ 1 by decide), set_other (show (9 : Nat) ≠ 2 by decide), set_other (show (9 : Nat) ≠ 3 by decide), set_other (show (9 : Nat) ≠ 4 by decide), set_other (show (9 : Nat) ≠ 5 by decide), set_other (show (9 : Nat) ≠ 6 by decide), set_other (show (9 : Nat) ≠ 7 by decide), set_other (show (9 : Nat) ≠ 8 by decide)]
  · exact T.h0
  · exact fun _ h => by rw [h8] at h; cases h
  · intro h
    obtain ⟨G, eG, RG, k6, k7⟩ := T.h2 h
    exact ⟨G, eG, RG.off (k7 h7 g eg) _, k6, k7⟩
  · exact T.h3
  · exact fun _ h => by rw [h8] at h; cases h
  · exact fun h => ⟨F, eF, RF.off (f7 h7 g eg) _, f6, f7⟩
  · intro h
    obtain ⟨g', e', k1, k2, k3, k4⟩ := T.h6 h
    have hne : g' ≠ g := fun e => T.h67 h h7 (by rw [eg, e', e])
    exact ⟨g', e', k1, by rw [hz]; exact k2, fun q => (setRow_other _ _ _ _ hne).trans (k3 q), fun q G eG => (setRow_other _ _ _ _ hne).trans (k4 q G eG)⟩
  · exact fun _ => ⟨g, eg, g1, by rw [hz]; exact g2, fun h => (by cases h), fun _ F' e' => ((g3 h9).setRow (F' := F)).same (e'.symm.trans eF)⟩
  · exact T.h67
  · exact fun h => by have := T.c8 h; simp [this]
  · exact fun _ => by simp [h5, h7]
/-- all is done -/
theorem TwoI.all (T : TwoI wk pa pb l W va xa ca vb xb cb ba bb) (h : ∀ i, i < 10 → l.getD i false = true) :
    ∃ F G g g', va = PV pa ∧ vb = PV pb ∧ ca = SAv F ∧ cb = SAv G ∧ ba = ptr g ∧ bb = ptr g' ∧ g ≠ g' ∧ wk.heap.size ≤ g ∧ wk.heap.size ≤ g' ∧ Sets W g F ∧ Sets W g' G ∧ RowsIn wk.heap.size W F (runsOf [pa]) ∧ RowsIn wk.heap.size W G (runsOf [pb]) ∧ FarS F g ∧ FarS G g ∧ Below wk.heap.size wk W := by
  obtain ⟨F, eF, RF, f6, _⟩ := T.h2 (h 2 (by decide))
  obtain ⟨G, eG, RG, k6, _⟩ := T.h5 (h 5 (by decide))
  obtain ⟨g, eg, g1, _, _, g4⟩ := T.h6 (h 6 (by decide))
  obtain ⟨g', eg', g1', _, _, g4'⟩ := T.h7 (h 7 (by decide))
  exact ⟨F, G, g, g', T.h0 (h 0 (by decide)), T.h3 (h 3 (by decide)), eF, eG, eg, eg', fun e => T.h67 (h 6 (by decide)) (h 7 (by decide)) (by rw [eg, eg', e]), g1, g1', g4 (h 8 (by decide)) F eF, g4' (h 9 (by decide)) G eG, RF, RG, f6 (h 6 (by decide)) g eg, k6 (h 6 (by decide)) g eg, T.b⟩
theorem TwoI.start (wk : World) (pa pb : Pv) (va xa ca vb xb cb ba bb : Value) : TwoI wk pa pb (Array.replicate 10 false) wk.drew va xa ca vb xb cb ba bb := by
  refine ⟨by simp, below_drew1 wk, ?_, ?_, ?_, ?_, ?_, ?_, ?_, ?_, ?_, ?_, ?_⟩ <;> simp only [rep_false] <;> (intro h; cases h)
end
end Go.Proofs.YtojpjakpcihacaaGreat

namespace Go.Proofs.YtojpjakpcihacaaGreat
open Go.RowKit

/-- the past's lists don't lie in the block g -/
def PFar (p : Pv) (g : Nat) : Prop := (0 < p.vn → ∀ ad, p.vo = some ad → ad.block ≠ g) ∧ (0 < p.cn → ∀ ad, p.co = some ad → ad.block ≠ g)
theorem PFar.new {n g : Nat} {p : Pv} (h : PNew n p) (hg : g < n) : PFar p g := ⟨fun _ ad e => by have := h.1 ad e; omega, fun _ ad e => by have := h.2 ad e; omega⟩
theorem PFar.old {W : World} {p : Pv} (h : PSrc W p) {g : Nat} (hg : W.heap.size ≤ g) : PFar p g := by
  refine ⟨fun hn ad e he => ?_, fun hn ad e he => ?_⟩
  · have := World.block_lt_of_cell? _ _ (h.vec.2.2 ad e 0 hn)
    rw [block_add] at this
    omega
  · have := World.block_lt_of_cell? _ _ (h.cloud.cell ad e 0 hn).c0
    rw [block_add] at this
    omega
theorem PSrc.far {W W' : World} {p : Pv} (h : PSrc W p) {g : Nat} (hf : PFar p g) (hk : ∀ q, q ≠ g → W'.heap[q]? = W.heap[q]?) : PSrc W' p := by
  have ev : ∀ ad, p.vo = some ad → 0 < p.vn → ∀ m, W'.cell? (ad.add m) = W.cell? (ad.add m) := fun ad e hn m => by unfold World.cell?; rw [block_add, hk _ (hf.1 hn ad e)]
  have ec : ∀ ad, p.co = some ad → 0 < p.cn → ∀ m, W'.cell? (ad.add m) = W.cell? (ad.add m) := fun ad e hn m => by unfold World.cell?; rw [block_add, hk _ (hf.2 hn ad e)]
  refine ⟨⟨h.vec.1, h.vec.2.1, fun ad e t ht => by rw [ev ad e (by omega)]; exact h.vec.2.2 ad e t ht⟩, ⟨h.cloud.len, h.cloud.nil, fun ad e t ht => ?_, h.cloud.big⟩, h.big⟩
  have A := h.cloud.cell ad e t ht
  have e' := ec ad e (by omega)
  exact ⟨by rw [e']; exact A.c0, by have := A.c1; rw [add_add] at this ⊢; rw [e']; exact this, by have := A.c2; rw [add_add] at this ⊢; rw [e']; exact this⟩
theorem PV_inj {p q : Pv} (h : PV p = PV q) : PC p = PC q := by injection h
theorem PBox.same {w : World} {g : Nat} {p q : Pv} (h : PBox w g p) (e : PV q = PV p) : PBox w g q := by unfold PBox at h ⊢; rw [PV_inj e]; exact h
abbrev vat (vs : List Value) (i : Nat) : Value := vs.getD i undef
/-- Φ: what is known of an operation's value; late: while no store has been done alone; RL: calls that answer pasts; AL: variables (made, filled, by which value) -/
structure BI (n st : Nat) (wk : World) (Φ : Nat → Value → World → Prop) (late : List Nat) (RL : List (Nat × (Pst → Prop))) (AL : List (Nat × Nat × Nat)) (l : Array Bool) (W : World) (vs : List Value) : Prop where
  sz : l.size = n
  ln : vs.length = n
  b : Below wk.heap.size wk W
  h : ∀ i, i < n → l.getD i false = true → (i ∈ late → l.getD st false = false) → Φ i (vat vs i) W
  r : ∀ x, x ∈ RL → l.getD x.1 false = true → ∃ p, vat vs x.1 = PV p ∧ PSrc W p ∧ x.2 p.P ∧ ∀ y, y ∈ AL → l.getD y.1 false = true → ∀ g, vat vs y.1 = ptr g → PFar p g
  a : ∀ y, y ∈ AL → l.getD y.1 false = true → ∃ g, vat vs y.1 = ptr g ∧ wk.heap.size ≤ g ∧ g < W.heap.size ∧ (l.getD y.2.1 false = false → PBox W g pv0) ∧ (l.getD y.2.1 false = true → ∀ p, vat vs y.2.2 = PV p → PBox W g p)
  d : ∀ y z, y ∈ AL → z ∈ AL → y.1 ≠ z.1 → l.getD y.1 false = true → l.getD z.1 false = true → vat vs y.1 ≠ vat vs z.1
  c : ∀ y, y ∈ AL → l.getD y.2.1 false = true → l.getD y.1 false = true ∧ l.getD y.2.2 false = true ∧ l.getD st false = true
def Mono (Φ : Nat → Value → World → Prop) : Prop := ∀ i x W W', Φ i x W → Below W.heap.size W W' → Φ i x W'
section
variable {n st : Nat} {wk : World} {Φ : Nat → Value → World → Prop} {late : List Nat} {RL : List (Nat × (Pst → Prop))} {AL : List (Nat × Nat × Nat)} {l : Array Bool} {W W' : World} {vs : List Value}
theorem vat_same {i : Nat} {v : Value} (h : i < vs.length) : vat (vs.set i v) i = v := by simp [vat, List.getD, h]
theorem vat_other {i j : Nat} {v : Value} (h : i ≠ j) : vat (vs.set i v) j = vat vs j := by simp [vat, List.getD, h]
theorem BI.on (hm : Mono Φ) (T : BI n st wk Φ late RL AL l W vs) (hb : Below W.heap.size W W') : BI n st wk Φ late RL AL l W' vs := by
  refine ⟨T.sz, T.ln, T.b.trans (hb.mono T.b.size), fun i h1 h2 h3 => hm _ _ _ _ (T.h i h1 h2 h3) hb, fun x hx hl => ?_, fun y hy hl => ?_, T.d, T.c⟩
  · obtain ⟨p, e, S, q, f⟩ := T.r x hx hl; exact ⟨p, e, S.below hb, q, f⟩
  · obtain ⟨g, e, h1, h2, h3, h4⟩ := T.a y hy hl; exact ⟨g, e, h1, Nat.lt_of_lt_of_le h2 hb.size, fun q => (h3 q).below hb, fun q p e => (h4 q p e).below hb⟩
/-- an operation that is none of the others -/
theorem BI.plain (hm : Mono Φ) (T : BI n st wk Φ late RL AL l W vs) (hb : Below W.heap.size W W') (i : Nat) (hi : i < n) (hl : l.getD i false = false) (v : Value) (hΦ : Φ i v W') (h1 : ∀ x, x ∈ RL → x.1 ≠ i) (h2 : ∀ y, y ∈ AL → y.1 ≠ i ∧ y.2.1 ≠ i) (h3 : st ≠ i) : BI n st wk Φ late RL AL (l.setIfInBounds i true) W' (vs.set i v) := by
  have T := T.on hm hb
  have hi' : i < vs.length := by rw [T.ln]; exact hi
  have hil : i < l.size := by rw [T.sz]; exact hi
  have st' : (l.setIfInBounds i true).getD st false = l.getD st false := set_other (fun e => h3 e.symm)
  refine ⟨by simpa using T.sz, by simpa using T.ln, T.b, fun j hj hlj hlt => ?_, fun x hx hlx => ?_, fun y hy hly => ?_, fun y z hy hz hne hly hlz => ?_, fun y hy hls => ?_⟩
  · by_cases e : i = j
    · subst e; rw [vat_same hi']; exact hΦ
    · rw [vat_other e]; rw [set_other e] at hlj; rw [st'] at hlt; exact T.h j hj hlj hlt
  · have hx1 : i ≠ x.1 := fun e => h1 x hx e.symm
    rw [set_other hx1] at hlx
    rw [vat_other hx1]
    obtain ⟨p, e, S, q, f⟩ := T.r x hx hlx
    refine ⟨p, e, S, q, fun y hy hly => ?_⟩
    have hy1 : i ≠ y.1 := fun e => (h2 y hy).1 e.symm
    rw [set_other hy1] at hly
    rw [vat_other hy1]
    exact f y hy hly
  · have hy1 : i ≠ y.1 := fun e => (h2 y hy).1 e.symm
    have hy2 : i ≠ y.2.1 := fun e => (h2 y hy).2 e.symm
    rw [set_other hy1] at hly
    rw [vat_other hy1, set_other hy2]
    obtain ⟨g, e, g1, g2, g3, g4⟩ := T.a y hy hly
    refine ⟨g, e, g1, g2, g3, fun hs => ?_⟩
    have hy3 : i ≠ y.2.2 := fun e => by
      have := (T.c y hy hs).2.1
      rw [← e, hl] at this
      cases this
    rw [vat_other hy3]
    exact g4 hs
  · have hy1 : i ≠ y.1 := fun e => (h2 y hy).1 e.symm
    have hz1 : i ≠ z.1 := fun e => (h2 z hz).1 e.symm
    rw [set_other hy1] at hly
    rw [set_other hz1] at hlz
    rw [vat_other hy1, vat_other hz1]
    exact T.d y z hy hz hne hly hlz
  · have hy1 : i ≠ y.1 := fun e => (h2 y hy).1 e.symm
    have hy2 : i ≠ y.2.1 := fun e => (h2 y hy).2 e.symm
    rw [set_other hy2] at hls
    have hc := T.c y hy hls
    rw [set_other hy1, st']
    refine ⟨hc.1, ?_, hc.2.2⟩
    by_cases e : i = y.2.2
    · rw [← e]; exact set_same hil
    · rw [set_other e]; exact hc.2.1
/-- a call that answers a past -/
theorem BI.call (hm : Mono Φ) (T : BI n st wk Φ late RL AL l W vs) (hb : Below W.heap.size W W') (i : Nat) (S : Pst → Prop) (hi : i < n) (hl : l.getD i false = false) (_ : (i, S) ∈ RL) (hu : ∀ x, x ∈ RL → x.1 = i → x.2 = S) (p : Pv) (hS : PSrc W' p) (hN : PNew W.heap.size p) (hp : S p.P) (hΦ : ∀ v U, Φ i v U) (h2 : ∀ y, y ∈ AL → y.1 ≠ i ∧ y.2.1 ≠ i) (h3 : st ≠ i) : BI n st wk Φ late RL AL (l.setIfInBounds i true) W' (vs.set i (PV p)) := by
  have T' := T.on hm hb
  have hi' : i < vs.length := by rw [T.ln]; exact hi
  have hil : i < l.size := by rw [T.sz]; exact hi
  have st' : (l.setIfInBounds i true).getD st false = l.getD st false := set_other (fun e => h3 e.symm)
  refine ⟨by simpa using T.sz, by simpa using T.ln, T'.b, fun j hj hlj hlt => ?_, fun x hx hlx => ?_, fun y hy hly => ?_, fun y z hy hz hne hly hlz => ?_, fun y hy hls => ?_⟩
  · by_cases e : i = j
    · subst e; exact hΦ _ _
    · rw [vat_other e]; rw [set_other e] at hlj; rw [st'] at hlt; exact T'.h j hj hlj hlt
  · by_cases e : i = x.1
    · have e2 := hu x hx e.symm
      refine ⟨p, by rw [← e, vat_same hi'], hS, by rw [e2]; exact hp, fun y hy hly g eg => ?_⟩
      have hy1 : i ≠ y.1 := fun e => (h2 y hy).1 e.symm
      rw [set_other hy1] at hly
      rw [vat_other hy1] at eg
      obtain ⟨g', e', _, g2, _⟩ := T.a y hy hly
      obtain rfl := ptr_inj (eg.symm.trans e')
      exact PFar.new hN g2
    · rw [set_other e] at hlx
      rw [vat_other e]
      obtain ⟨p', e', S', q', f⟩ := T'.r x hx hlx
      refine ⟨p', e', S', q', fun y hy hly => ?_⟩
      have hy1 : i ≠ y.1 := fun e => (h2 y hy).1 e.symm
      rw [set_other hy1] at hly
      rw [vat_other hy1]
      exact f y hy hly
  · have hy1 : i ≠ y.1 := fun e => (h2 y hy).1 e.symm
    have hy2 : i ≠ y.2.1 := fun e => (h2 y hy).2 e.symm
    rw [set_other hy1] at hly
    rw [vat_other hy1, set_other hy2]
    obtain ⟨g, e, g1, g2, g3, g4⟩ := T'.a y hy hly
    refine ⟨g, e, g1, g2, g3, fun hs => ?_⟩
    have hy3 : i ≠ y.2.2 := fun e => by
      have := (T.c y hy hs).2.1
      rw [← e, hl] at this
      cases this
    rw [vat_other hy3]
    exact g4 hs
  · have hy1 : i ≠ y.1 := fun e => (h2 y hy).1 e.symm
    have hz1 : i ≠ z.1 := fun e => (h2 z hz).1 e.symm
    rw [set_other hy1] at hly
    rw [set_other hz1] at hlz
    rw [vat_other hy1, vat_other hz1]
    exact T.d y z hy hz hne hly hlz
  · have hy1 : i ≠ y.1 := fun e => (h2 y hy).1 e.symm
    have hy2 : i ≠ y.2.1 := fun e => (h2 y hy).2 e.symm
    rw [set_other hy2] at hls
    have hc := T.c y hy hls
    rw [set_other hy1, st']
    refine ⟨hc.1, ?_, hc.2.2⟩
    by_cases e : i = y.2.2
    · rw [← e]; exact set_same hil
    · rw [set_other e]; exact hc.2.1
/-- a variable is made -/
theorem BI.make (hm : Mono Φ) (T : BI n st wk Φ late RL AL l W vs) (i s c : Nat) (hi : i < n) (hl : l.getD i false = false) (_ : (i, s, c) ∈ AL) (hu : ∀ y, y ∈ AL → y.1 = i → y = (i, s, c)) (h1 : ∀ x, x ∈ RL → x.1 ≠ i) (h2 : ∀ y, y ∈ AL → y.2.1 ≠ i ∧ y.2.2 ≠ i) (hΦ : ∀ v U, Φ i v U) (h3 : st ≠ i) : BI n st wk Φ late RL AL (l.setIfInBounds i true) (W.alloc (.cells (PC pv0) 25)) (vs.set i (ptr W.heap.size)) := by
  have T' := T.on hm (below_new W (.cells (PC pv0) 25))
  have hi' : i < vs.length := by rw [T.ln]; exact hi
  have hil : i < l.size := by rw [T.sz]; exact hi
  have st' : (l.setIfInBounds i true).getD st false = l.getD st false := set_other (fun e => h3 e.symm)
  refine ⟨by simpa using T.sz, by simpa using T.ln, T'.b, fun j hj hlj hlt => ?_, fun x hx hlx => ?_, fun y hy hly => ?_, fun y z hy hz hne hly hlz => ?_, fun y hy hls => ?_⟩
  · by_cases e : i = j
    · subst e; exact hΦ _ _
    · rw [vat_other e]; rw [set_other e] at hlj; rw [st'] at hlt; exact T'.h j hj hlj hlt
  · have hx1 : i ≠ x.1 := fun e => h1 x hx e.symm
    rw [set_other hx1] at hlx
    rw [vat_other hx1]
    obtain ⟨p, e, S, q, f⟩ := T.r x hx hlx
    refine ⟨p, e, S.below (below_new _ _), q, fun y hy hly g eg => ?_⟩
    by_cases e1 : i = y.1
    · rw [← e1, vat_same hi'] at eg
      obtain rfl := ptr_inj eg
      exact PFar.old S (Nat.le_refl _)
    · rw [set_other e1] at hly
      rw [vat_other e1] at eg
      exact f y hy hly g eg
  · by_cases e1 : i = y.1
    · obtain rfl := hu y hy e1.symm
      refine ⟨W.heap.size, by rw [vat_same hi'], T.b.size, by simp, fun _ => pbox_new W pv0, fun hs => ?_⟩
      rw [set_other (fun e => (h2 _ hy).1 e.symm)] at hs
      have := (T.c _ hy hs).1
      rw [hl] at this
      cases this
    · have hy2 : i ≠ y.2.1 := fun e => (h2 y hy).1 e.symm
      rw [set_other e1] at hly
      rw [vat_other e1, set_other hy2, vat_other (fun e => (h2 y hy).2 e.symm)]
      exact T'.a y hy hly
  · by_cases e1 : i = y.1
    · have e2 : i ≠ z.1 := fun e => hne (by rw [← e1, ← e])
      rw [set_other e2] at hlz
      rw [← e1, vat_same hi', vat_other e2]
      obtain ⟨g, e, _, g2, _⟩ := T.a z hz hlz
      intro h
      have := ptr_inj (h.trans e)
      omega
    · rw [set_other e1] at hly
      rw [vat_other e1]
      by_cases e2 : i = z.1
      · rw [← e2, vat_same hi']
        obtain ⟨g, e, _, g2, _⟩ := T.a y hy hly
        intro h
        have := ptr_inj (h.symm.trans e)
        omega
      · rw [set_other e2] at hlz
        rw [vat_other e2]
        exact T.d y z hy hz hne hly hlz
  · have hy2 : i ≠ y.2.1 := fun e => (h2 y hy).1 e.symm
    rw [set_other hy2] at hls
    have hc := T.c y hy hls
    rw [st', set_other (fun e => (h2 y hy).2 e.symm)]
    refine ⟨?_, hc.2⟩
    by_cases e : i = y.1
    · rw [← e]; exact set_same hil
    · rw [set_other e]; exact hc.1
/-- a variable is filled; what is said of the others is of no memory -/
theorem BI.fill (T : BI n st wk Φ late RL AL l W vs) (i s c : Nat) (p : Pv) (hs : s < n) (hl : l.getD s false = false) (hA : (i, s, c) ∈ AL) (hu : ∀ y, y ∈ AL → y.2.1 = s → y = (i, s, c)) (hk : ∀ y, y ∈ AL → y.1 = i → y = (i, s, c)) (di : l.getD i false = true) (dc : l.getD c false = true) (dst : s = st ∨ l.getD st false = true) (hp : vat vs c = PV p) (h1 : ∀ x, x ∈ RL → x.1 ≠ s) (h2 : ∀ y, y ∈ AL → y.1 ≠ s ∧ y.2.2 ≠ s)
    (hm : ∀ j x U U', j ∉ late → Φ j x U → Φ j x U') (hΦ : ∀ v U, Φ s v U) (v : Value) :
    ∃ g, vat vs i = ptr g ∧ PBox W g pv0 ∧ BI n st wk Φ late RL AL (l.setIfInBounds s true) (W.setRow g (PC p)) (vs.set s v) := by
  obtain ⟨g, eg, g1, g2, g3, _⟩ := T.a _ hA di
  have hi' : s < vs.length := by rw [T.ln]; exact hs
  have hsl : s < l.size := by rw [T.sz]; exact hs
  have hst : (l.setIfInBounds s true).getD st false = true := by
    by_cases e : s = st
    · rw [← e]; exact set_same hsl
    · rw [set_other e]; exact dst.resolve_left e
  have hz : (W.setRow g (PC p)).heap.size = W.heap.size := by simp [World.setRow]
  have hother : ∀ q, q ≠ g → (W.setRow g (PC p)).heap[q]? = W.heap[q]? := fun q hq => setRow_other _ _ _ _ hq
  refine ⟨g, eg, g3 hl, by simpa using T.sz, by simpa using T.ln, below_setRow T.b g1, fun j hj hlj hlt => ?_, fun x hx hlx => ?_, fun y hy hly => ?_, fun y z hy hz' hne hly hlz => ?_, fun y hy hls => ?_⟩
  · by_cases e : s = j
    · subst e; exact hΦ _ _
    · have hjl : j ∉ late := fun hm' => by have := hlt hm'; rw [hst] at this; cases this
      rw [vat_other e]
      rw [set_other e] at hlj
      exact hm j _ W _ hjl (T.h j hj hlj (fun hm' => absurd hm' hjl))
  · have hx1 : s ≠ x.1 := fun e => h1 x hx e.symm
    rw [set_other hx1] at hlx
    rw [vat_other hx1]
    obtain ⟨p', e', S', q', f⟩ := T.r x hx hlx
    refine ⟨p', e', S'.far (f _ hA di g eg) hother, q', fun y hy hly => ?_⟩
    have hy1 : s ≠ y.1 := fun e => (h2 y hy).1 e.symm
    rw [set_other hy1] at hly
    rw [vat_other hy1]
    exact f y hy hly
  · have hy1 : s ≠ y.1 := fun e => (h2 y hy).1 e.symm
    rw [set_other hy1] at hly
    rw [vat_other hy1, vat_other (fun e => (h2 y hy).2 e.symm)]
    by_cases e : y.1 = i
    · obtain rfl := hk y hy e
      refine ⟨g, eg, g1, by rw [hz]; exact g2, fun h => ?_, fun _ q hq => ?_⟩
      · rw [set_same hsl] at h; cases h
      · have : PBox (W.setRow g (PC p)) g p := setRow_heap _ _ _ _ _ _ (g3 hl)
        exact this.same (hq.symm.trans hp)
    · obtain ⟨g', eg', k1, k2, k3, k4⟩ := T.a y hy hly
      have hne : g' ≠ g := fun h => T.d y _ hy hA (by exact e) hly di (by rw [eg', h]; exact eg.symm)
      have hy2 : s ≠ y.2.1 := fun h => by have := hu y hy h.symm; rw [this] at e; exact e rfl
      rw [set_other hy2]
      exact ⟨g', eg', k1, by rw [hz]; exact k2, fun q => (hother _ hne).trans (k3 q), fun q p' e' => (hother _ hne).trans (k4 q p' e')⟩
  · have hy1 : s ≠ y.1 := fun e => (h2 y hy).1 e.symm
    have hz1 : s ≠ z.1 := fun e => (h2 z hz').1 e.symm
    rw [set_other hy1] at hly
    rw [set_other hz1] at hlz
    rw [vat_other hy1, vat_other hz1]
    exact T.d y z hy hz' hne hly hlz
  · have hy1 : s ≠ y.1 := fun e => (h2 y hy).1 e.symm
    have hy3 : s ≠ y.2.2 := fun e => (h2 y hy).2 e.symm
    rw [set_other hy1, set_other hy3]
    by_cases e : s = y.2.1
    · obtain rfl := hu y hy e.symm
      exact ⟨di, dc, hst⟩
    · rw [set_other e] at hls
      have := T.c y hy hls
      exact ⟨this.1, this.2.1, hst⟩
theorem BI.start (n st : Nat) (wk : World) (Φ : Nat → Value → World → Prop) (late : List Nat) (RL : List (Nat × (Pst → Prop))) (AL : List (Nat × Nat × Nat)) (vs : List Value) (h : vs.length = n) : BI n st wk Φ late RL AL (Array.replicate n false) wk.drew vs := by
  refine ⟨by simp, h, below_drew1 wk, ?_, ?_, ?_, ?_, ?_⟩ <;> simp only [rep_false]
  · intro i _ h; cases h
  · intro x _ h; cases h
  · intro y _ h; cases h
  · intro y z _ _ _ h; cases h
  · intro y _ h; cases h
end
end Go.Proofs.YtojpjakpcihacaaGreat
