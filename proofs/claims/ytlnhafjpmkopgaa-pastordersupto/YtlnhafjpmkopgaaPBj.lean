/- A call in a region that answers a past, old or new; formed: its contract. -/
import Derived.Test.YtlnhafjpmkopgaaPBi
import Derived.Test.YtlnhafjpmkopgaaPIs
import Derived.Test.YtlnhafjpmkopgaaPNo
namespace Go.Proofs.Ytlnhafjpmkopgaa
open Go.RowKit
attribute [local go_sem ↓] ldP_eq stP_eq
attribute [local go_sem] zero_PC cells_PV fold_PC PC_size fold_PC1

section
variable {n st : Nat} {wk : World} {Φ : Nat → Value → World → Prop} {late : List Nat} {RL : List (Nat × (Pst → Prop))} {AL : List (Nat × Nat × Nat)} {l : Array Bool} {W W' : World} {vs : List Value}
theorem BI.callF (hm : Mono Φ) (T : BI n st wk Φ late RL AL l W vs) (hb : Below W.heap.size W W') (i : Nat) (S : Pst → Prop) (hi : i < n) (hl : l.getD i false = false) (_ : (i, S) ∈ RL) (hu : ∀ x, x ∈ RL → x.1 = i → x.2 = S) (p : Pv) (hS : PSrc W' p) (hF : ∀ g, wk.heap.size ≤ g → g < W.heap.size → PFar p g) (hp : S p.P) (hΦ : ∀ v U, Φ i v U) (h2 : ∀ y, y ∈ AL → y.1 ≠ i ∧ y.2.1 ≠ i) (h3 : st ≠ i) : BI n st wk Φ late RL AL (l.setIfInBounds i true) W' (vs.set i (PV p)) := by
  have T' := T.on hm hb
  have hi' : i < vs.length := by rw [T.ln]; exact hi
  have hil : i < l.size := by rw [T.sz]; exact hi
  have st' : (l.setIfInBounds i true).getD st false = l.getD st false := set_other (fun e => h3 e.symm)
  refine ⟨by simpa using T.sz, by simpa using T.ln, T'.b, fun j hj hlj hlt => ?_, fun x hx hlx => ?_, fun y hy hly => ?_, fun y z hy hz hne hly hlz => ?_, fun y hy hls => ?_⟩
  · by_cases e : i = j
    · subst e; exact hΦ _ _
    · rw [vat_other e]; rw [set_other e] at hlj; rw [st'] at hlt; exact T'.h j hj hlj hlt
  · by_cases e : i = x.1
    · have e2 := hu x hx e.symm
      refine ⟨p, by rw [← e, vat_same hi'], hS, by rw [e2]; exact hp, fun y hy hly g eg => ?_⟩
      have hy1 : i ≠ y.1 := fun e => (h2 y hy).1 e.symm
      rw [set_other hy1] at hly
      rw [vat_other hy1] at eg
      obtain ⟨g', e', g1, g2, _⟩ := T.a y hy hly
      obtain rfl := ptr_inj (eg.symm.trans e')
      exact hF _ g1 g2
    · rw [set_other e] at hlx
      rw [vat_other e]
      obtain ⟨p', e', S', q', f⟩ := T'.r x hx hlx
      refine ⟨p', e', S', q', fun y hy hly => ?_⟩
      have hy1 : i ≠ y.1 := fun e => (h2 y hy).1 e.symm
      rw [set_other hy1] at hly
      rw [vat_other hy1]
      exact f y hy hly
  · have hy1 : i ≠ y.1 := fun e => (h2 y hy).1 e.symm
    have hy2 : i ≠ y.2.1 := fun e => (h2 y hy).2 e.symm
    rw [set_other hy1] at hly
    rw [vat_other hy1, set_other hy2]
    obtain ⟨g, e, g1, g2, g3, g4⟩ := T'.a y hy hly
    refine ⟨g, e, g1, g2, g3, fun hs => ?_⟩
    have hy3 : i ≠ y.2.2 := fun e => by
      have := (T.c y hy hs).2.1
      rw [← e, hl] at this
      cases this
    rw [vat_other hy3]
    exact g4 hs
  · have hy1 : i ≠ y.1 := fun e => (h2 y hy).1 e.symm
    have hz1 : i ≠ z.1 := fun e => (h2 z hz).1 e.symm
    rw [set_other hy1] at hly
    rw [set_other hz1] at hlz
    rw [vat_other hy1, vat_other hz1]
    exact T.d y z hy hz hne hly hlz
  · have hy1 : i ≠ y.1 := fun e => (h2 y hy).1 e.symm
    have hy2 : i ≠ y.2.1 := fun e => (h2 y hy).2 e.symm
    rw [set_other hy2] at hls
    have hc := T.c y hy hls
    rw [set_other hy1, st']
    refine ⟨hc.1, ?_, hc.2.2⟩
    by_cases e : i = y.2.2
    · rw [← e]; exact set_same hil
    · rw [set_other e]; exact hc.2.1
end
/-- a past is handed back, the very one or in new memory; old memory stands -/
def GivesF (w w' : World) (e : Ending) (p : Pv) (Q : Pst → Prop) : Prop := ∃ q : Pv, e = .returned (PV q) ∧ PSrc w' q ∧ (q = p ∨ PNew w.heap.size q) ∧ Below w.heap.size w w' ∧ Q q.P
set_option maxRecDepth 100000 in
theorem formed_any (a : Pv) (w : World) (hS : PSrc w a) : Calls Try.prog 37 #[PV a] w fun e w' => GivesF w w' e a (CanonOf (runsAt a.P)) := by
  have b0 := below_new w (.cells (PC a) 25)
  have b1 := below_new (w.alloc (.cells (PC a) 25)) (.cells (PC pv0) 25)
  have hp1 := pbox_new (w.alloc (.cells (PC a) 25)) pv0
  rw [World.size_alloc] at hp1
  have HXA := hide ((pbox_new w a).below b1)
  have HB1 := hide (b0.trans (b1.mono b0.size))
  have HS := hide (hS.below HB1.out)
  have HS0 := hide hS
  have HP1 := hide hp1
  clear hS b0 b1 hp1
  obtain ⟨wk, hwk⟩ : ∃ wk, (w.alloc (.cells (PC a) 25)).alloc (.cells (PC pv0) 25) = wk := ⟨_, rfl⟩
  rw [hwk] at HXA HB1 HS HP1
  have HZ : Hid (wk.heap.size = w.heap.size + 2) := by show _ = _; rw [← hwk]; simp
  have l1 := run_ldP HXA.out.at
  go_enter Try.func37, Try.ntmps37
  go_wp2_with fail
  clear hwk
  refine (isNormP_any a _ HS.out).mono ?_
  rintro e w1 ⟨b, rfl, hb, b2⟩
  have HBI := hide hb
  have HB2 := hide (HB1.out.trans (b2.mono HB1.out.size))
  have HP2 := hide (HP1.out.below b2)
  have HS2 := hide (HS.out.below b2)
  have l2 := run_ldP (HXA.out.below b2).at
  have HZ2 : Hid (w.heap.size + 2 ≤ w1.heap.size) := by have := b2.size; have h := HZ.out; show _ ≤ _; omega
  clear l1 hb b2 HXA HP1 HS HB1 HZ
  cases b with
  | true =>
    have s1 := run_stP (p' := a) HP2.out
    have HE1 : Hid (PBox (w1.setRow (w.heap.size + 1) (PC a)) (w.heap.size + 1) a) := setRow_heap _ _ _ _ _ _ HP2.out
    have HE2 : Hid (GivesF w (w1.setRow (w.heap.size + 1) (PC a)) (.returned (PV a)) a (CanonOf (runsAt a.P))) := by
      have hf := HBI.out.out.1 rfl
      exact ⟨a, rfl, HS2.out.far (PFar.old HS0.out (by omega)) (fun q hq => setRow_other _ _ _ _ hq), Or.inl rfl, below_setRow HB2.out (by omega), canon_of_chain hf.1 hf.2⟩
    go_wp2_with fail
    exact bodyPost_ret (v := PV a) (resP Try.results37 rfl HE1.out) rfl HE2.out
  | false =>
    go_wp2_with fail
    refine (pastNorm_any a _ HS2.out).mono ?_
    rintro e w2 ⟨p, rfl, S2, n2, b3, c2⟩
    obtain ⟨s1, e1, e2, e3, e4⟩ := past_end (w := w) (HP2.out.below b3) S2 (n2.mono (by have := HZ2.out; omega)) (HB2.out.trans (b3.mono HB2.out.size)) (by omega)
    have HE1 := hide e1
    have HE2 : Hid (GivesF w (w2.setRow (w.heap.size + 1) (PC p)) (.returned (PV p)) a (CanonOf (runsAt a.P))) := ⟨p, rfl, e2, Or.inr e3, e4, c2⟩
    clear S2 n2 b3 c2 e1 e2 e3 e4 l2
    go_wp2_with fail
    exact bodyPost_ret (v := PV p) (resP Try.results37 rfl HE1.out) rfl HE2.out
end Go.Proofs.Ytlnhafjpmkopgaa
