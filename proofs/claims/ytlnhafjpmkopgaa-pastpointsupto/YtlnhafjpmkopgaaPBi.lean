/- Regions that draw their order, with calls that answer pasts, literals and variables that are made: what holds at every moment. -/
import Derived.Test.YtlnhafjpmkopgaaPMm
import Derived.Test.YtlnhafjpmkopgaaPSm
namespace Go.Proofs.Ytlnhafjpmkopgaa
open Go.RowKit

/-- the past's lists don't lie in the block g -/
def PFar (p : Pv) (g : Nat) : Prop := (0 < p.vn → ∀ ad, p.vo = some ad → ad.block ≠ g) ∧ (0 < p.cn → ∀ ad, p.co = some ad → ad.block ≠ g)
theorem PFar.new {n g : Nat} {p : Pv} (h : PNew n p) (hg : g < n) : PFar p g := ⟨fun _ ad e => by have := h.1 ad e; omega, fun _ ad e => by have := h.2 ad e; omega⟩
theorem PFar.old {W : World} {p : Pv} (h : PSrc W p) {g : Nat} (hg : W.heap.size ≤ g) : PFar p g := by
  refine ⟨fun hn ad e he => ?_, fun hn ad e he => ?_⟩
  · have := World.block_lt_of_cell? _ _ (h.vec.2.2 ad e 0 hn)
    rw [block_add] at this
    omega
  · have := World.block_lt_of_cell? _ _ (h.cloud.cell ad e 0 hn).c0
    rw [block_add] at this
    omega
theorem PSrc.far {W W' : World} {p : Pv} (h : PSrc W p) {g : Nat} (hf : PFar p g) (hk : ∀ q, q ≠ g → W'.heap[q]? = W.heap[q]?) : PSrc W' p := by
  have ev : ∀ ad, p.vo = some ad → 0 < p.vn → ∀ m, W'.cell? (ad.add m) = W.cell? (ad.add m) := fun ad e hn m => by unfold World.cell?; rw [block_add, hk _ (hf.1 hn ad e)]
  have ec : ∀ ad, p.co = some ad → 0 < p.cn → ∀ m, W'.cell? (ad.add m) = W.cell? (ad.add m) := fun ad e hn m => by unfold World.cell?; rw [block_add, hk _ (hf.2 hn ad e)]
  refine ⟨⟨h.vec.1, h.vec.2.1, fun ad e t ht => by rw [ev ad e (by omega)]; exact h.vec.2.2 ad e t ht⟩, ⟨h.cloud.len, h.cloud.nil, fun ad e t ht => ?_, h.cloud.big⟩, h.big⟩
  have A := h.cloud.cell ad e t ht
  have e' := ec ad e (by omega)
  exact ⟨by rw [e']; exact A.c0, by have := A.c1; rw [add_add] at this ⊢; rw [e']; exact this, by have := A.c2; rw [add_add] at this ⊢; rw [e']; exact this⟩
theorem PV_inj {p q : Pv} (h : PV p = PV q) : PC p = PC q := by injection h
theorem PBox.same {w : World} {g : Nat} {p q : Pv} (h : PBox w g p) (e : PV q = PV p) : PBox w g q := by unfold PBox at h ⊢; rw [PV_inj e]; exact h
abbrev vat (vs : List Value) (i : Nat) : Value := vs.getD i undef
/-- Φ: what is known of an operation's value; late: while no store has been done alone; RL: calls that answer pasts; AL: variables (made, filled, by which value) -/
structure BI (n st : Nat) (wk : World) (Φ : Nat → Value → World → Prop) (late : List Nat) (RL : List (Nat × (Pst → Prop))) (AL : List (Nat × Nat × Nat)) (l : Array Bool) (W : World) (vs : List Value) : Prop where
  sz : l.size = n
  ln : vs.length = n
  b : Below wk.heap.size wk W
  h : ∀ i, i < n → l.getD i false = true → (i ∈ late → l.getD st false = false) → Φ i (vat vs i) W
  r : ∀ x, x ∈ RL → l.getD x.1 false = true → ∃ p, vat vs x.1 = PV p ∧ PSrc W p ∧ x.2 p.P ∧ ∀ y, y ∈ AL → l.getD y.1 false = true → ∀ g, vat vs y.1 = ptr g → PFar p g
  a : ∀ y, y ∈ AL → l.getD y.1 false = true → ∃ g, vat vs y.1 = ptr g ∧ wk.heap.size ≤ g ∧ g < W.heap.size ∧ (l.getD y.2.1 false = false → PBox W g pv0) ∧ (l.getD y.2.1 false = true → ∀ p, vat vs y.2.2 = PV p → PBox W g p)
  d : ∀ y z, y ∈ AL → z ∈ AL → y.1 ≠ z.1 → l.getD y.1 false = true → l.getD z.1 false = true → vat vs y.1 ≠ vat vs z.1
  c : ∀ y, y ∈ AL → l.getD y.2.1 false = true → l.getD y.1 false = true ∧ l.getD y.2.2 false = true ∧ l.getD st false = true
def Mono (Φ : Nat → Value → World → Prop) : Prop := ∀ i x W W', Φ i x W → Below W.heap.size W W' → Φ i x W'
section
variable {n st : Nat} {wk : World} {Φ : Nat → Value → World → Prop} {late : List Nat} {RL : List (Nat × (Pst → Prop))} {AL : List (Nat × Nat × Nat)} {l : Array Bool} {W W' : World} {vs : List Value}
theorem vat_same {i : Nat} {v : Value} (h : i < vs.length) : vat (vs.set i v) i = v := by simp [vat, List.getD, h]
theorem vat_other {i j : Nat} {v : Value} (h : i ≠ j) : vat (vs.set i v) j = vat vs j := by simp [vat, List.getD, h]
theorem BI.on (hm : Mono Φ) (T : BI n st wk Φ late RL AL l W vs) (hb : Below W.heap.size W W') : BI n st wk Φ late RL AL l W' vs := by
  refine ⟨T.sz, T.ln, T.b.trans (hb.mono T.b.size), fun i h1 h2 h3 => hm _ _ _ _ (T.h i h1 h2 h3) hb, fun x hx hl => ?_, fun y hy hl => ?_, T.d, T.c⟩
  · obtain ⟨p, e, S, q, f⟩ := T.r x hx hl; exact ⟨p, e, S.below hb, q, f⟩
  · obtain ⟨g, e, h1, h2, h3, h4⟩ := T.a y hy hl; exact ⟨g, e, h1, Nat.lt_of_lt_of_le h2 hb.size, fun q => (h3 q).below hb, fun q p e => (h4 q p e).below hb⟩
/-- an operation that is none of the others -/
theorem BI.plain (hm : Mono Φ) (T : BI n st wk Φ late RL AL l W vs) (hb : Below W.heap.size W W') (i : Nat) (hi : i < n) (hl : l.getD i false = false) (v : Value) (hΦ : Φ i v W') (h1 : ∀ x, x ∈ RL → x.1 ≠ i) (h2 : ∀ y, y ∈ AL → y.1 ≠ i ∧ y.2.1 ≠ i) (h3 : st ≠ i) : BI n st wk Φ late RL AL (l.setIfInBounds i true) W' (vs.set i v) := by
  have T := T.on hm hb
  have hi' : i < vs.length := by rw [T.ln]; exact hi
  have hil : i < l.size := by rw [T.sz]; exact hi
  have st' : (l.setIfInBounds i true).getD st false = l.getD st false := set_other (fun e => h3 e.symm)
  refine ⟨by simpa using T.sz, by simpa using T.ln, T.b, fun j hj hlj hlt => ?_, fun x hx hlx => ?_, fun y hy hly => ?_, fun y z hy hz hne hly hlz => ?_, fun y hy hls => ?_⟩
  · by_cases e : i = j
    · subst e; rw [vat_same hi']; exact hΦ
    · rw [vat_other e]; rw [set_other e] at hlj; rw [st'] at hlt; exact T.h j hj hlj hlt
  · have hx1 : i ≠ x.1 := fun e => h1 x hx e.symm
    rw [set_other hx1] at hlx
    rw [vat_other hx1]
    obtain ⟨p, e, S, q, f⟩ := T.r x hx hlx
    refine ⟨p, e, S, q, fun y hy hly => ?_⟩
    have hy1 : i ≠ y.1 := fun e => (h2 y hy).1 e.symm
    rw [set_other hy1] at hly
    rw [vat_other hy1]
    exact f y hy hly
  · have hy1 : i ≠ y.1 := fun e => (h2 y hy).1 e.symm
    have hy2 : i ≠ y.2.1 := fun e => (h2 y hy).2 e.symm
    rw [set_other hy1] at hly
    rw [vat_other hy1, set_other hy2]
    obtain ⟨g, e, g1, g2, g3, g4⟩ := T.a y hy hly
    refine ⟨g, e, g1, g2, g3, fun hs => ?_⟩
    have hy3 : i ≠ y.2.2 := fun e => by
      have := (T.c y hy hs).2.1
      rw [← e, hl] at this
      cases this
    rw [vat_other hy3]
    exact g4 hs
  · have hy1 : i ≠ y.1 := fun e => (h2 y hy).1 e.symm
    have hz1 : i ≠ z.1 := fun e => (h2 z hz).1 e.symm
    rw [set_other hy1] at hly
    rw [set_other hz1] at hlz
    rw [vat_other hy1, vat_other hz1]
    exact T.d y z hy hz hne hly hlz
  · have hy1 : i ≠ y.1 := fun e => (h2 y hy).1 e.symm
    have hy2 : i ≠ y.2.1 := fun e => (h2 y hy).2 e.symm
    rw [set_other hy2] at hls
    have hc := T.c y hy hls
    rw [set_other hy1, st']
    refine ⟨hc.1, ?_, hc.2.2⟩
    by_cases e : i = y.2.2
    · rw [← e]; exact set_same hil
    · rw [set_other e]; exact hc.2.1
/-- a call that answers a past -/
theorem BI.call (hm : Mono Φ) (T : BI n st wk Φ late RL AL l W vs) (hb : Below W.heap.size W W') (i : Nat) (S : Pst → Prop) (hi : i < n) (hl : l.getD i false = false) (_ : (i, S) ∈ RL) (hu : ∀ x, x ∈ RL → x.1 = i → x.2 = S) (p : Pv) (hS : PSrc W' p) (hN : PNew W.heap.size p) (hp : S p.P) (hΦ : ∀ v U, Φ i v U) (h2 : ∀ y, y ∈ AL → y.1 ≠ i ∧ y.2.1 ≠ i) (h3 : st ≠ i) : BI n st wk Φ late RL AL (l.setIfInBounds i true) W' (vs.set i (PV p)) := by
  have T' := T.on hm hb
  have hi' : i < vs.length := by rw [T.ln]; exact hi
  have hil : i < l.size := by rw [T.sz]; exact hi
  have st' : (l.setIfInBounds i true).getD st false = l.getD st false := set_other (fun e => h3 e.symm)
  refine ⟨by simpa using T.sz, by simpa using T.ln, T'.b, fun j hj hlj hlt => ?_, fun x hx hlx => ?_, fun y hy hly => ?_, fun y z hy hz hne hly hlz => ?_, fun y hy hls => ?_⟩
  · by_cases e : i = j
    · subst e; exact hΦ _ _
    · rw [vat_other e]; rw [set_other e] at hlj; rw [st'] at hlt; exact T'.h j hj hlj hlt
  · by_cases e : i = x.1
    · have e2 := hu x hx e.symm
      refine ⟨p, by rw [← e, vat_same hi'], hS, by rw [e2]; exact hp, fun y hy hly g eg => ?_⟩
      have hy1 : i ≠ y.1 := fun e => (h2 y hy).1 e.symm
      rw [set_other hy1] at hly
      rw [vat_other hy1] at eg
      obtain ⟨g', e', _, g2, _⟩ := T.a y hy hly
      obtain rfl := ptr_inj (eg.symm.trans e')
      exact PFar.new hN g2
    · rw [set_other e] at hlx
      rw [vat_other e]
      obtain ⟨p', e', S', q', f⟩ := T'.r x hx hlx
      refine ⟨p', e', S', q', fun y hy hly => ?_⟩
      have hy1 : i ≠ y.1 := fun e => (h2 y hy).1 e.symm
      rw [set_other hy1] at hly
      rw [vat_other hy1]
      exact f y hy hly
  · have hy1 : i ≠ y.1 := fun e => (h2 y hy).1 e.symm
    have hy2 : i ≠ y.2.1 := fun e => (h2 y hy).2 e.symm
    rw [set_other hy1] at hly
    rw [vat_other hy1, set_other hy2]
    obtain ⟨g, e, g1, g2, g3, g4⟩ := T'.a y hy hly
    refine ⟨g, e, g1, g2, g3, fun hs => ?_⟩
    have hy3 : i ≠ y.2.2 := fun e => by
      have := (T.c y hy hs).2.1
      rw [← e, hl] at this
      cases this
    rw [vat_other hy3]
    exact g4 hs
  · have hy1 : i ≠ y.1 := fun e => (h2 y hy).1 e.symm
    have hz1 : i ≠ z.1 := fun e => (h2 z hz).1 e.symm
    rw [set_other hy1] at hly
    rw [set_other hz1] at hlz
    rw [vat_other hy1, vat_other hz1]
    exact T.d y z hy hz hne hly hlz
  · have hy1 : i ≠ y.1 := fun e => (h2 y hy).1 e.symm
    have hy2 : i ≠ y.2.1 := fun e => (h2 y hy).2 e.symm
    rw [set_other hy2] at hls
    have hc := T.c y hy hls
    rw [set_other hy1, st']
    refine ⟨hc.1, ?_, hc.2.2⟩
    by_cases e : i = y.2.2
    · rw [← e]; exact set_same hil
    · rw [set_other e]; exact hc.2.1
/-- a variable is made -/
theorem BI.make (hm : Mono Φ) (T : BI n st wk Φ late RL AL l W vs) (i s c : Nat) (hi : i < n) (hl : l.getD i false = false) (_ : (i, s, c) ∈ AL) (hu : ∀ y, y ∈ AL → y.1 = i → y = (i, s, c)) (h1 : ∀ x, x ∈ RL → x.1 ≠ i) (h2 : ∀ y, y ∈ AL → y.2.1 ≠ i ∧ y.2.2 ≠ i) (hΦ : ∀ v U, Φ i v U) (h3 : st ≠ i) : BI n st wk Φ late RL AL (l.setIfInBounds i true) (W.alloc (.cells (PC pv0) 25)) (vs.set i (ptr W.heap.size)) := by
  have T' := T.on hm (below_new W (.cells (PC pv0) 25))
  have hi' : i < vs.length := by rw [T.ln]; exact hi
  have hil : i < l.size := by rw [T.sz]; exact hi
  have st' : (l.setIfInBounds i true).getD st false = l.getD st false := set_other (fun e => h3 e.symm)
  refine ⟨by simpa using T.sz, by simpa using T.ln, T'.b, fun j hj hlj hlt => ?_, fun x hx hlx => ?_, fun y hy hly => ?_, fun y z hy hz hne hly hlz => ?_, fun y hy hls => ?_⟩
  · by_cases e : i = j
    · subst e; exact hΦ _ _
    · rw [vat_other e]; rw [set_other e] at hlj; rw [st'] at hlt; exact T'.h j hj hlj hlt
  · have hx1 : i ≠ x.1 := fun e => h1 x hx e.symm
    rw [set_other hx1] at hlx
    rw [vat_other hx1]
    obtain ⟨p, e, S, q, f⟩ := T.r x hx hlx
    refine ⟨p, e, S.below (below_new _ _), q, fun y hy hly g eg => ?_⟩
    by_cases e1 : i = y.1
    · rw [← e1, vat_same hi'] at eg
      obtain rfl := ptr_inj eg
      exact PFar.old S (Nat.le_refl _)
    · rw [set_other e1] at hly
      rw [vat_other e1] at eg
      exact f y hy hly g eg
  · by_cases e1 : i = y.1
    · obtain rfl := hu y hy e1.symm
      refine ⟨W.heap.size, by rw [vat_same hi'], T.b.size, by simp, fun _ => pbox_new W pv0, fun hs => ?_⟩
      rw [set_other (fun e => (h2 _ hy).1 e.symm)] at hs
      have := (T.c _ hy hs).1
      rw [hl] at this
      cases this
    · have hy2 : i ≠ y.2.1 := fun e => (h2 y hy).1 e.symm
      rw [set_other e1] at hly
      rw [vat_other e1, set_other hy2, vat_other (fun e => (h2 y hy).2 e.symm)]
      exact T'.a y hy hly
  · by_cases e1 : i = y.1
    · have e2 : i ≠ z.1 := fun e => hne (by rw [← e1, ← e])
      rw [set_other e2] at hlz
      rw [← e1, vat_same hi', vat_other e2]
      obtain ⟨g, e, _, g2, _⟩ := T.a z hz hlz
      intro h
      have := ptr_inj (h.trans e)
      omega
    · rw [set_other e1] at hly
      rw [vat_other e1]
      by_cases e2 : i = z.1
      · rw [← e2, vat_same hi']
        obtain ⟨g, e, _, g2, _⟩ := T.a y hy hly
        intro h
        have := ptr_inj (h.symm.trans e)
        omega
      · rw [set_other e2] at hlz
        rw [vat_other e2]
        exact T.d y z hy hz hne hly hlz
  · have hy2 : i ≠ y.2.1 := fun e => (h2 y hy).1 e.symm
    rw [set_other hy2] at hls
    have hc := T.c y hy hls
    rw [st', set_other (fun e => (h2 y hy).2 e.symm)]
    refine ⟨?_, hc.2⟩
    by_cases e : i = y.1
    · rw [← e]; exact set_same hil
    · rw [set_other e]; exact hc.1
/-- a variable is filled; what is said of the others is of no memory -/
theorem BI.fill (T : BI n st wk Φ late RL AL l W vs) (i s c : Nat) (p : Pv) (hs : s < n) (hl : l.getD s false = false) (hA : (i, s, c) ∈ AL) (hu : ∀ y, y ∈ AL → y.2.1 = s → y = (i, s, c)) (hk : ∀ y, y ∈ AL → y.1 = i → y = (i, s, c)) (di : l.getD i false = true) (dc : l.getD c false = true) (dst : s = st ∨ l.getD st false = true) (hp : vat vs c = PV p) (h1 : ∀ x, x ∈ RL → x.1 ≠ s) (h2 : ∀ y, y ∈ AL → y.1 ≠ s ∧ y.2.2 ≠ s)
    (hm : ∀ j x U U', j ∉ late → Φ j x U → Φ j x U') (hΦ : ∀ v U, Φ s v U) (v : Value) :
    ∃ g, vat vs i = ptr g ∧ PBox W g pv0 ∧ BI n st wk Φ late RL AL (l.setIfInBounds s true) (W.setRow g (PC p)) (vs.set s v) := by
  obtain ⟨g, eg, g1, g2, g3, _⟩ := T.a _ hA di
  have hi' : s < vs.length := by rw [T.ln]; exact hs
  have hsl : s < l.size := by rw [T.sz]; exact hs
  have hst : (l.setIfInBounds s true).getD st false = true := by
    by_cases e : s = st
    · rw [← e]; exact set_same hsl
    · rw [set_other e]; exact dst.resolve_left e
  have hz : (W.setRow g (PC p)).heap.size = W.heap.size := by simp [World.setRow]
  have hother : ∀ q, q ≠ g → (W.setRow g (PC p)).heap[q]? = W.heap[q]? := fun q hq => setRow_other _ _ _ _ hq
  refine ⟨g, eg, g3 hl, by simpa using T.sz, by simpa using T.ln, below_setRow T.b g1, fun j hj hlj hlt => ?_, fun x hx hlx => ?_, fun y hy hly => ?_, fun y z hy hz' hne hly hlz => ?_, fun y hy hls => ?_⟩
  · by_cases e : s = j
    · subst e; exact hΦ _ _
    · have hjl : j ∉ late := fun hm' => by have := hlt hm'; rw [hst] at this; cases this
      rw [vat_other e]
      rw [set_other e] at hlj
      exact hm j _ W _ hjl (T.h j hj hlj (fun hm' => absurd hm' hjl))
  · have hx1 : s ≠ x.1 := fun e => h1 x hx e.symm
    rw [set_other hx1] at hlx
    rw [vat_other hx1]
    obtain ⟨p', e', S', q', f⟩ := T.r x hx hlx
    refine ⟨p', e', S'.far (f _ hA di g eg) hother, q', fun y hy hly => ?_⟩
    have hy1 : s ≠ y.1 := fun e => (h2 y hy).1 e.symm
    rw [set_other hy1] at hly
    rw [vat_other hy1]
    exact f y hy hly
  · have hy1 : s ≠ y.1 := fun e => (h2 y hy).1 e.symm
    rw [set_other hy1] at hly
    rw [vat_other hy1, vat_other (fun e => (h2 y hy).2 e.symm)]
    by_cases e : y.1 = i
    · obtain rfl := hk y hy e
      refine ⟨g, eg, g1, by rw [hz]; exact g2, fun h => ?_, fun _ q hq => ?_⟩
      · rw [set_same hsl] at h; cases h
      · have : PBox (W.setRow g (PC p)) g p := setRow_heap _ _ _ _ _ _ (g3 hl)
        exact this.same (hq.symm.trans hp)
    · obtain ⟨g', eg', k1, k2, k3, k4⟩ := T.a y hy hly
      have hne : g' ≠ g := fun h => T.d y _ hy hA (by exact e) hly di (by rw [eg', h]; exact eg.symm)
      have hy2 : s ≠ y.2.1 := fun h => by have := hu y hy h.symm; rw [this] at e; exact e rfl
      rw [set_other hy2]
      exact ⟨g', eg', k1, by rw [hz]; exact k2, fun q => (hother _ hne).trans (k3 q), fun q p' e' => (hother _ hne).trans (k4 q p' e')⟩
  · have hy1 : s ≠ y.1 := fun e => (h2 y hy).1 e.symm
    have hz1 : s ≠ z.1 := fun e => (h2 z hz').1 e.symm
    rw [set_other hy1] at hly
    rw [set_other hz1] at hlz
    rw [vat_other hy1, vat_other hz1]
    exact T.d y z hy hz' hne hly hlz
  · have hy1 : s ≠ y.1 := fun e => (h2 y hy).1 e.symm
    have hy3 : s ≠ y.2.2 := fun e => (h2 y hy).2 e.symm
    rw [set_other hy1, set_other hy3]
    by_cases e : s = y.2.1
    · obtain rfl := hu y hy e.symm
      exact ⟨di, dc, hst⟩
    · rw [set_other e] at hls
      have := T.c y hy hls
      exact ⟨this.1, this.2.1, hst⟩
theorem BI.start (n st : Nat) (wk : World) (Φ : Nat → Value → World → Prop) (late : List Nat) (RL : List (Nat × (Pst → Prop))) (AL : List (Nat × Nat × Nat)) (vs : List Value) (h : vs.length = n) : BI n st wk Φ late RL AL (Array.replicate n false) wk.drew vs := by
  refine ⟨by simp, h, below_drew1 wk, ?_, ?_, ?_, ?_, ?_⟩ <;> simp only [rep_false]
  · intro i _ h; cases h
  · intro x _ h; cases h
  · intro y _ h; cases h
  · intro y z _ _ _ h; cases h
  · intro y _ h; cases h
end
end Go.Proofs.Ytlnhafjpmkopgaa
