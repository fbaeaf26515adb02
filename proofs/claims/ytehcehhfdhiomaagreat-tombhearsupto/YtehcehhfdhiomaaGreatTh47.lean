/- THe -/
import Derived.Test.YtehcehhfdhiomaaGreatTk
import Derived.Test.YtehcehhfdhiomaaGreatTh45
import Derived.Test.YtehcehhfdhiomaaGreatTh46
import Derived.Test.YtehcehhfdhiomaaGreatTh28
namespace Go.Proofs.YtehcehhfdhiomaaGreat
open Go.RowKit
theorem hears_dots {s : Fc} {P : Pst} (h : SomeD s) (M : ∀ r, r < 16 → ∀ n, mem (runsAt P r) n ↔ hrd s r n) : dotIn P ⟨0, 2⟩ ∧ ¬ dotIn P ⟨0, 3⟩ := by
 refine ⟨⟨by decide, (M 0 (by omega) 2).2 (.inl ((dotsG_mem _ _ _).2 ⟨⟨0, 2⟩, by rw [h.1]; simp [dotOf, aw1, aw2, aw3], by decide, rfl, rfl⟩))⟩, fun hx => ?_⟩
 rcases (M 0 (by omega) 3).1 hx.2 with q | q
 ·obtain ⟨d, hd, -, h1, h2⟩ := (dotsG_mem _ _ _).1 q
  rw [h.1] at hd
  simp only [aw1, aw2, aw3, dotOf, List.map_cons, List.map_nil, List.mem_cons, List.not_mem_nil, or_false] at hd
  rcases hd with rfl | rfl | rfl
  ·simp at h2
  ·simp at h2
  ·simp at h1
 ·rw [h.2.2.1, mem_runs awP 0 (by decide)] at q
  obtain ⟨-, -, q | ⟨c, hc, -⟩⟩ := q
  ·simp [awP] at q
  ·cases hc
theorem hrd_join {a b f : Fc} {Q : Rp → Prop} (i : IsF f (fun x => x ∈ a.es ∨ x ∈ b.es) (fun r n => mem (runsAt a.p.P r) n ∨ mem (runsAt b.p.P r) n) Q) (r : Nat) (hr : r < 16) (n : Int) : hrd f r n ↔ hrd a r n ∨ hrd b r n := by
 have h : mem (dotsG (f.es.map dotOf) r) n ↔ mem (dotsG (a.es.map dotOf) r) n ∨ mem (dotsG (b.es.map dotOf) r) n := by
  rw [dotsG_mem, dotsG_mem, dotsG_mem]
  constructor
  ·rintro ⟨d, hd, q⟩
   obtain ⟨x, hx, rfl⟩ := List.mem_map.1 hd
   rcases (i.es x).1 hx with h | h
   ·exact .inl ⟨_, List.mem_map.2 ⟨x, h, rfl⟩, q⟩
   ·exact .inr ⟨_, List.mem_map.2 ⟨x, h, rfl⟩, q⟩
  ·rintro (⟨d, hd, q⟩ | ⟨d, hd, q⟩)
   ·obtain ⟨x, hx, rfl⟩ := List.mem_map.1 hd
    exact ⟨_, List.mem_map.2 ⟨x, (i.es x).2 (.inl hx), rfl⟩, q⟩
   ·obtain ⟨x, hx, rfl⟩ := List.mem_map.1 hd
    exact ⟨_, List.mem_map.2 ⟨x, (i.es x).2 (.inr hx), rfl⟩, q⟩
 unfold hrd
 rw [i.p r hr n, h]
 exact ⟨fun h => h.elim (fun h => h.elim (fun h => .inl (.inl h)) (fun h => .inr (.inl h))) (fun h => h.elim (fun h => .inl (.inr h)) (fun h => .inr (.inr h))), fun h => h.elim (fun h => h.elim (fun h => .inl (.inl h)) (fun h => .inr (.inl h))) (fun h => h.elim (fun h => .inl (.inr h)) (fun h => .inr (.inr h)))⟩
theorem rep_lt {z : Int} (h : V.isR z = true) : z.toNat < 16 ∧ 0 ≤ z := by
 have : 0 ≤ z ∧ z < 16 := by simpa [V.isR] using h
 omega
theorem dotIn_join {a b f : Fc} {Q : Rp → Prop} (i : IsF f (fun x => x ∈ a.es ∨ x ∈ b.es) (fun r n => mem (runsAt a.p.P r) n ∨ mem (runsAt b.p.P r) n) Q) {p q r : Pst} (Mp : ∀ r, r < 16 → ∀ n, mem (runsAt p r) n ↔ hrd a r n) (Mq : ∀ r, r < 16 → ∀ n, mem (runsAt q r) n ↔ hrd b r n) (Mr : ∀ k, k < 16 → ∀ n, mem (runsAt r k) n ↔ hrd f k n) (d : Rn) : dotIn r d ↔ dotIn p d ∨ dotIn q d := by
 unfold dotIn
 constructor
 ·rintro ⟨h1, h2⟩
  have hl := (rep_lt h1).1
  rw [Mr _ hl, hrd_join i _ hl, ← Mp _ hl, ← Mq _ hl] at h2
  exact h2.elim (fun h => .inl ⟨h1, h⟩) (fun h => .inr ⟨h1, h⟩)
 ·rintro (⟨h1, h2⟩ | ⟨h1, h2⟩) <;> have hl := (rep_lt h1).1
  ·exact ⟨h1, by rw [Mr _ hl, hrd_join i _ hl, ← Mp _ hl]; exact .inl h2⟩
  ·exact ⟨h1, by rw [Mr _ hl, hrd_join i _ hl, ← Mq _ hl]; exact .inr h2⟩
theorem dotIn_live {f : Fc} {r : Pst} (hc : K.chk f.es = 0) (Mr : ∀ k, k < 16 → ∀ n, mem (runsAt r k) n ↔ hrd f k n) {e : K.En} (he : e ∈ liveL f) : dotIn r (dotE e) := by
 have hm : e ∈ f.es := (List.mem_filter.1 (List.mem_filter.1 he).1).1
 have hd := ce_dot (chk_ce hc e hm)
 have h3 := hd
 unfold okD dotOf at h3
 simp only [Bool.and_eq_true] at h3
 have hl := rep_lt h3.1
 refine ⟨h3.1, (Mr _ hl.1 _).2 (.inl ((dotsG_mem _ _ _).2 ⟨dotOf e, List.mem_map.2 ⟨e, hm, rfl⟩, hd, ?_, rfl⟩))⟩
 show e.rep = ((e.rep.toNat : Nat) : Int)
 have := hl.2
 omega
theorem past_one {f : Fc} {P Q : Pst} (h1 : InForm P) (h2 : InForm Q) (M1 : ∀ r, r < 16 → ∀ n, mem (runsAt P r) n ↔ hrd f r n) (M2 : ∀ r, r < 16 → ∀ n, mem (runsAt Q r) n ↔ hrd f r n) : P = Q :=
 (canon_iff.2 h1 : CanonOf (runsAt P) P).unique (canon_iff.2 h2 : CanonOf (runsAt Q) Q) fun r hr n => (M1 r hr n).trans (M2 r hr n).symm
theorem nd_len {α : Type} : ∀ (l m : List α), l.Nodup → (∀ x ∈ l, x ∈ m) → l.length ≤ m.length := by
 classical
 intro l
 induction l with
 | nil => intro m _ _; exact Nat.zero_le _
 | cons x l ih =>
  intro m hn hs
  rw [List.nodup_cons] at hn
  have hx := hs x List.mem_cons_self
  have h1 := ih (m.erase x) hn.2 (fun y hy => (List.mem_erase_of_ne (fun e => by subst e; exact hn.1 hy)).2 (hs y (List.mem_cons_of_mem _ hy)))
  rw [List.length_erase_of_mem hx] at h1
  have h2 := List.length_pos_of_mem hx
  simp only [List.length_cons]
  omega
theorem asc_nodup {L : List K.En} (h : K.Asc L) : L.Nodup := by
 refine List.Pairwise.imp (fun {x y} hxy e => ?_) h
 subst e
 unfold K.ahead at hxy
 simp at hxy
theorem wt_le2 (X : List Pv) (c : Nat) (h : ∀ p ∈ X, p.P.cloud.length ≤ c) : wt X ≤ X.length * (c + 1) := by
 induction X with
 | nil => exact Nat.zero_le _
 | cons p X ih =>
  have h1 := ih (fun q hq => h q (List.mem_cons_of_mem _ hq))
  have h2 := h p List.mem_cons_self
  simp only [wt, List.length_cons]
  rw [Nat.add_mul]
  omega
theorem live_pre {w1 w2 w3 : World} {a b f : Fc} {M : Nat → Int → Prop} (hA : FcU w1 a) (hB : FcU w2 b) (hF : FcOk w3 f) (i : IsF f (fun x => x ∈ a.es ∨ x ∈ b.es) M (fun y => y ∈ plR a.rs ∨ y ∈ plR b.rs)) (hn : f.rn ≤ a.rn + b.rn) : (∀ s, wt (ofS f.rs s) ≤ 8796093022207) ∧ f.rn * (f.an + 1) ≤ 8796093022207 := by
 have ha := hA.rn
 have hb := hB.rn
 have hr : f.rs.length = f.rn := hF.rs.len
 constructor
 ·intro s
  have h1 := wt_le2 (ofS f.rs s) 1048576 (fun p hp => by
   unfold ofS at hp
   obtain ⟨r, hr, rfl⟩ := List.mem_map.1 hp
   have hm : rck r ∈ plR f.rs := List.mem_map.2 ⟨r, (List.mem_filter.1 hr).1, rfl⟩
   rcases (i.rs _).1 hm with h | h
   ·obtain ⟨y, hy, e⟩ := List.mem_map.1 h
    have e2 : y.p.P = r.p.P := congrArg Prod.snd e
    rw [← e2]; exact hA.sm.2 y hy
   ·obtain ⟨y, hy, e⟩ := List.mem_map.1 h
    have e2 : y.p.P = r.p.P := congrArg Prod.snd e
    rw [← e2]; exact hB.sm.2 y hy)
  have h2 : (ofS f.rs s).length ≤ f.rs.length := by unfold ofS; rw [List.length_map]; exact List.length_filter_le _ _
  have h3 : (ofS f.rs s).length * (1048576 + 1) ≤ 419430 * (1048576 + 1) := Nat.mul_le_mul_right _ (by omega)
  omega
 ·have h1 := nd_len f.es (a.es ++ b.es) (asc_nodup (K.chk_asc' i.chk)) (fun x hx => List.mem_append.2 ((i.es x).1 hx))
  rw [List.length_append, hF.es.1, hA.ok.es.1, hB.ok.es.1] at h1
  have h2 := hA.an
  have h3 := hB.an
  have h4 : f.rn * (f.an + 1) ≤ 419430 * 2097153 := Nat.mul_le_mul (by omega) (by omega)
  omega
def bareF (a : Fc) : Fc := ⟨a.ao, a.an, a.ac, a.es, a.p, none, 0, 0, []⟩
theorem bare_form {a : Fc} (h : FormF a) : FormF (bareF a) := ⟨h.1, h.2.1, okR_zero _⟩
theorem bare_ok {w : World} {a : Fc} (h : FcOk w a) : FcOk w (bareF a) := ⟨h.es, h.p, RcS.empty w⟩
theorem set_heapT (w : World) (g : Nat) (cs : Array Value) (t : TypeId) (f : Nat × Nat) (j : Nat) (v : Value) (h : w.heap[g]? = some (.cells cs t f)) : (w.setCell ⟨g, j, none⟩ v).heap[g]? = some (.cells (cs.setIfInBounds j v) t f) := by
 simp [World.setCell, h, Array.getElem?_modify, Array.setIfInBounds]
theorem set_otherT (w : World) (g j k : Nat) (v : Value) (hk : k ≠ g) : (w.setCell ⟨g, j, none⟩ v).heap[k]? = w.heap[k]? := by
 unfold World.setCell
 simp only
 split <;> simp [Array.getElem?_modify, Ne.symm hk]
theorem FaBox.bare {w : World} {g : Nat} {f : Fc} (A : FaBox w g (mkF f)) : FaBox (w.setCell ⟨g, 3, none⟩ (.slice none 0 0)) g (mkF (bareF f)) := set_heapT w g _ _ _ 3 _ A
theorem set_belowT {w w' : World} {n g j : Nat} {v : Value} (h : Below n w w') (hg : n ≤ g) : Below n w (w'.setCell ⟨g, j, none⟩ v) := h.trans ⟨rfl, rfl, rfl, by simp, fun k hk => set_otherT w' g j k v (by omega)⟩
theorem FaBox.fzT {w : World} {g : Nat} {m : FacV} (h : FaBox w g m) (j : Nat) : w.frozen? ⟨g, j, none⟩ = false := by unfold FaBox at h; simp [World.frozen?, h]
theorem box3Dd (w : World) (f g : Fc) (d : Rn) : ∃ wk, ((w.alloc (.cells (FaC (mkF f)) 29)).alloc (.cells (FaC (mkF g)) 29)).alloc (.cells (RC d) 46) = wk ∧ Hid (FaBox wk w.heap.size (mkF f)) ∧ Hid (FaBox wk (w.heap.size + 1) (mkF g)) ∧ Hid (Box wk (w.heap.size + 2) 46 d) ∧ Hid (Below w.heap.size w wk) := by
 obtain ⟨w2, hw2, HX2, HY2, HB2⟩ := box2F w f g
 have b3 := below_new w2 (.cells (RC d) 46)
 have hs2 : w2.heap.size = w.heap.size + 2 := by rw [← hw2]; simp
 refine ⟨_, rfl, ?_, ?_, ?_, ?_⟩ <;> rw [hw2]
 ·exact HX2.out.below b3
 ·exact HY2.out.below b3
 ·have h := box_new w2 46 d
  rw [hs2] at h
  exact h
 ·exact HB2.out.trans (b3.mono HB2.out.size)
theorem PsD.holds {f : Fc} {P : Pst} {er : Int} (h : PsD f P er) (hf : FormF f) : er = 0 ∧ InForm P ∧ ∀ r, r < 16 → ∀ n, mem (runsAt P r) n ↔ hrd f r n := by
 rcases h with ⟨q, -⟩ | ⟨-, q⟩
 ·exact absurd hf q
 ·exact q
attribute [local go_sem ↓] ldP_eq stP_eq ldFa_eq stFa_eq ldD_eq stD_eq bldD_eq K.ld28_eq K.st28_eq
attribute [local go_sem] cells_PV PC_size cells_FaV FaC_size zero_FaZ cells_RV RC_size zero_RC run_bldD K.zero_EC K.cells_EV K.EC_size
set_option maxRecDepth 100000 in
set_option maxHeartbeats 6400000 in
theorem tombHears_law (a b : Fc) (d : Rn) (w : World) (hA : FcU w a) (hB : FcU w b) :
  Calls Tryz.prog 5 #[FaV (mkF a), FaV (mkF b), RV d] w fun e w' => e = .returned (.bool true) ∧ Below w.heap.size w w' := by
 have HUA := hide hA
 have HUB := hide hB
 obtain ⟨wk, hwk, HX, HY, HD, HBK⟩ := box3Dd w a b d
 have HA := hide (hA.ok.below HBK.out)
 have HB := hide (hB.ok.below HBK.out)
 clear hA hB
 obtain ⟨G, hG0⟩ : ∃ G, w.heap.size = G := ⟨_, rfl⟩
 rw [hG0] at HX HY HD
 have HC := hide (Below.refl wk.heap.size wk)
 go_enter Tryz.func5, Tryz.ntmps5
 go_wp2_with fail
 clear hwk hG0
 refine (someL_any _).mono ?_
 rintro e w1 ⟨t, rfl, F1, -, -, b1, S1⟩
 replace HC := hide (HC.out.trans (b1.mono HC.out.size))
 have HS1 := hide F1
 have HSD := hide S1
 clear F1 S1 b1
 go_wp2_with fail
 refine (tPast_any t _ HS1.out).mono ?_
 rintro e w2 ⟨p0, er, rfl, P2, -, b2, D2⟩
 obtain ⟨rfl, -, M2⟩ := D2.holds (some_form HSD.out)
 have HM0 := hide (hears_dots HSD.out M2)
 obtain ⟨gp, hg0⟩ : ∃ g, w2.heap.size = g := ⟨_, rfl⟩
 have HGk : Hid (wk.heap.size ≤ gp) := by have h1 := HC.out.size; have h2 := b2.size; show wk.heap.size ≤ gp; omega
 obtain ⟨ugp, hst, X0, B0, -⟩ := madeP w2 p0 gp hg0
 replace hst : (stP (.pointer (some ⟨gp, 0, none⟩)) (PV p0)).run Tryz.prog (w2.alloc (.cells #[.slice none 0 0, .slice none 0 0] 26)) = .ok () ugp := hst
 have b01 := b2.trans (B0.mono b2.size)
 replace HC := hide (HC.out.trans (b01.mono HC.out.size))
 have HXgp := hide X0
 have HPgp := hide (P2.below B0)
 clear X0 B0 b01
 clear HS1 HSD P2 b2 D2 M2
 have lp := run_ldP HXgp.out.at
 go_wp2_with fail
 clear hst lp
 refine (refHas_any p0 ⟨0, 2⟩ _ HPgp.out).mono ?_
 rintro e w4 ⟨x, rfl, hx, bq⟩
 obtain rfl : x = true := hx.2 HM0.out.1
 replace HXgp := hide (HXgp.out.below bq)
 replace HPgp := hide (HPgp.out.below bq)
 replace HC := hide (HC.out.trans (bq.mono HC.out.size))
 clear hx bq
 have lp := run_ldP HXgp.out.at
 go_wp2_with fail
 clear lp
 refine (refHas_any p0 ⟨0, 3⟩ _ HPgp.out).mono ?_
 rintro e w5 ⟨x, rfl, hx, bq⟩
 obtain rfl : x = false := by
  cases x with
  | false => rfl
  | true => exact absurd (hx.1 rfl) HM0.out.2
 replace HXgp := hide (HXgp.out.below bq)
 replace HPgp := hide (HPgp.out.below bq)
 replace HC := hide (HC.out.trans (bq.mono HC.out.size))
 clear hx bq HM0
 have l0 := run_ldFa (HX.out.below HC.out)
 have l1 := run_ldFa (HY.out.below HC.out)
 go_wp2_with fail
 clear l0 l1
 refine (well_any a b _ (HA.out.below HC.out) (HB.out.below HC.out)).mono ?_
 rintro e w6 ⟨q, rfl, hq, bq⟩
 replace HXgp := hide (HXgp.out.below bq)
 replace HPgp := hide (HPgp.out.below bq)
 replace HC := hide (HC.out.trans (bq.mono HC.out.size))
 clear bq
 cases q with
 | false =>
  have HE := hide (HBK.out.trans (HC.out.mono HBK.out.size))
  clear hq
  go_wp2_with fail
  go_ret
  exact ⟨rfl, HE.out⟩
 | true =>
  have HW1 := hide (hq.1 rfl)
  clear hq
  have l0 := run_ldFa (HX.out.below HC.out)
  have l1 := run_ldFa (HY.out.below HC.out)
  have HG6 : Hid (gp < w6.heap.size) := HXgp.out.lt
  go_wp2_with fail
  clear l0 l1
  refine (tJoin_any a b _ (HA.out.below HC.out) (HB.out.below HC.out) HUA.out.row HUB.out.row (by have := HUA.out.rn; have := HUB.out.rn; omega)).mono ?_
  rintro e w7 ⟨f, er, rfl, F0, R0, N7, b0, J0⟩
  obtain ⟨rfl, N0, I0⟩ := join_isF (HA.out.below HC.out) (HB.out.below HC.out) F0 HW1.out J0
  obtain ⟨gf, hg0⟩ : ∃ g, w7.heap.size = g := ⟨_, rfl⟩
  obtain ⟨w8, hst, X0, B0, -⟩ := madeFa w7 (mkF f) gf hg0
  replace hst : (stFa (.pointer (some ⟨gf, 0, none⟩)) (FaV (mkF f))).run Tryz.prog (w7.alloc (.cells (FaC (mkF fz0)) 29)) = .ok () w8 := hst
  have b01 := b0.trans (B0.mono b0.size)
  have HNf : Hid (FcN (gp + 1) f) := N7.mono HG6.out
  have HGf : Hid (gp < gf) := by have h1 := HG6.out; have h2 := b0.size; show gp < gf; omega
  replace HXgp := hide (HXgp.out.below b01)
  replace HPgp := hide (HPgp.out.below b01)
  replace HC := hide (HC.out.trans (b01.mono HC.out.size))
  have HXf := hide X0
  have HOf := hide (F0.below B0)
  have HIf := hide I0
  have HNn := hide N0
  clear X0 B0 F0 R0 N7 b0 J0 I0 N0 b01 HG6
  have la := run_ldFa (HX.out.below HC.out)
  go_wp2_with fail
  clear hst hg0 la
  refine (tPast_any a _ (HA.out.below HC.out)).mono ?_
  rintro e w9 ⟨p1, er, rfl, P9, N9, b9, D9⟩
  obtain ⟨rfl, I9, M9⟩ := D9.holds HW1.out.1
  have HG9 : Hid (gp < w8.heap.size) := HXgp.out.lt
  replace HXgp := hide (HXgp.out.below b9)
  replace HPgp := hide (HPgp.out.below b9)
  replace HXf := hide (HXf.out.below b9)
  replace HOf := hide (HOf.out.below b9)
  replace HC := hide (HC.out.trans (b9.mono HC.out.size))
  have hst := run_stP (p' := p1) HXgp.out
  obtain ⟨w10, hw10⟩ : ∃ w10, w9.setRow gp (PC p1) = w10 := ⟨_, rfl⟩
  have Hpg : Hid (wk.heap.size ≤ gp) := HGk.out
  have X10 : PBox (w9.setRow gp (PC p1)) gp p1 := setRow_heap _ _ _ _ _ _ HXgp.out
  have P10 : PSrc (w9.setRow gp (PC p1)) p1 := psrc_off P9 (fun ad e => setRow_other _ _ _ _ (by have h1 := N9.1 ad e; have h2 := HG9.out; omega)) (fun ad e => setRow_other _ _ _ _ (by have h1 := N9.2 ad e; have h2 := HG9.out; omega))
  have F10 : FaBox (w9.setRow gp (PC p1)) gf (mkF f) := (setRow_other _ _ _ _ (by have := HGf.out; omega)).trans HXf.out
  have O10 : FcOk (w9.setRow gp (PC p1)) f := HOf.out.off2 HNf.out (fun k hk => setRow_other _ _ _ _ (by omega))
  have C10 : Below wk.heap.size wk (w9.setRow gp (PC p1)) := below_setRow HC.out Hpg.out
  rw [hw10] at hst X10 P10 F10 O10 C10
  replace HXgp := hide X10
  have HPp1 := hide P10
  replace HXf := hide F10
  replace HOf := hide O10
  replace HC := hide C10
  have HIp := hide I9
  have HMp := hide M9
  clear X10 P10 F10 O10 C10 hw10 P9 N9 b9 D9 I9 M9 HPgp HG9 HNf HGf
  have lb := run_ldFa (HY.out.below HC.out)
  go_wp2_with fail
  clear hst lb
  refine (tPast_any b _ (HB.out.below HC.out)).mono ?_
  rintro e w11 ⟨q, er, rfl, P11, -, b11, D11⟩
  obtain ⟨rfl, -, M11⟩ := D11.holds HW1.out.2.1
  have HMq := hide M11
  obtain ⟨gq, hg0⟩ : ∃ g, w11.heap.size = g := ⟨_, rfl⟩
  obtain ⟨ugq, hst, X0, B0, -⟩ := madeP w11 q gq hg0
  replace hst : (stP (.pointer (some ⟨gq, 0, none⟩)) (PV q)).run Tryz.prog (w11.alloc (.cells #[.slice none 0 0, .slice none 0 0] 26)) = .ok () ugq := hst
  have b01 := b11.trans (B0.mono b11.size)
  replace HXgp := hide (HXgp.out.below b01)
  replace HPp1 := hide (HPp1.out.below b01)
  replace HXf := hide (HXf.out.below b01)
  replace HOf := hide (HOf.out.below b01)
  replace HC := hide (HC.out.trans (b01.mono HC.out.size))
  have HXgq := hide X0
  have HPgq := hide (P11.below B0)
  clear X0 B0 b01
  clear P11 b11 D11 M11
  have lb := run_ldFa HXf.out
  go_wp2_with fail
  clear hst hg0 lb
  refine (tPast_any f _ HOf.out).mono ?_
  rintro e w12 ⟨r, er, rfl, P12, -, b12, D12⟩
  obtain ⟨rfl, -, M12⟩ := D12.holds HIf.out.form
  have HMr := hide M12
  obtain ⟨gr, hg0⟩ : ∃ g, w12.heap.size = g := ⟨_, rfl⟩
  obtain ⟨ugr, hst, X0, B0, -⟩ := madeP w12 r gr hg0
  replace hst : (stP (.pointer (some ⟨gr, 0, none⟩)) (PV r)).run Tryz.prog (w12.alloc (.cells #[.slice none 0 0, .slice none 0 0] 26)) = .ok () ugr := hst
  have b01 := b12.trans (B0.mono b12.size)
  replace HXgp := hide (HXgp.out.below b01)
  replace HPp1 := hide (HPp1.out.below b01)
  replace HXf := hide (HXf.out.below b01)
  replace HOf := hide (HOf.out.below b01)
  replace HXgq := hide (HXgq.out.below b01)
  replace HPgq := hide (HPgq.out.below b01)
  replace HC := hide (HC.out.trans (b01.mono HC.out.size))
  have HXgr := hide X0
  have HPgr := hide (P12.below B0)
  clear X0 B0 b01
  clear P12 b12 D12 M12
  have lb := run_ldFa HXf.out
  obtain ⟨hp1, hp2⟩ := live_pre HUA.out HUB.out HOf.out HIf.out HNn.out
  go_wp2_with fail
  clear hst hg0 lb
  refine (tLive_any f _ HOf.out hp1 hp2).mono ?_
  rintro e w13 h13
  obtain ⟨ao, n, c, rfl, L13, b13, -⟩ : K.GivesEE _ w13 e (liveL f) 0 := by
   rcases h13 with ⟨-, h⟩ | ⟨h, -⟩
   ·exact h
   ·exact absurd HIf.out.form h
  clear h13 hp1 hp2
  replace HXgp := hide (HXgp.out.below b13)
  replace HPp1 := hide (HPp1.out.below b13)
  replace HXf := hide (HXf.out.below b13)
  replace HOf := hide (HOf.out.below b13)
  replace HXgq := hide (HXgq.out.below b13)
  replace HPgq := hide (HPgq.out.below b13)
  replace HXgr := hide (HXgr.out.below b13)
  replace HPgr := hide (HPgr.out.below b13)
  replace HC := hide (HC.out.trans (b13.mono HC.out.size))
  have HL := hide L13
  clear L13 b13
  have HJ := hide (dotIn_join HIf.out HMp.out HMq.out HMr.out d)
  have HSt : Hid (∀ v : World, Below w13.heap.size w13 v → (ldP (.pointer (some ⟨gr, 0, none⟩))).run Tryz.prog v = .ok (PV r) v ∧ (ldP (.pointer (some ⟨gp, 0, none⟩))).run Tryz.prog v = .ok (PV p1) v ∧ (ldP (.pointer (some ⟨gq, 0, none⟩))).run Tryz.prog v = .ok (PV q) v ∧ (ldD (.pointer (some ⟨G + 2, 0, none⟩))).run Tryz.prog v = .ok (RV d) v) := fun v h => ⟨run_ldP (HXgr.out.below h).at, run_ldP (HXgp.out.below h).at, run_ldP (HXgq.out.below h).at, run_ldD ((HD.out.below HC.out).below h).at⟩
  go_upto_region 13 with fail
  refine wp_region_held_drew (S := fun v => (ldP (.pointer (some ⟨gr, 0, none⟩))).run Tryz.prog v = .ok (PV r) v ∧ (ldP (.pointer (some ⟨gp, 0, none⟩))).run Tryz.prog v = .ok (PV p1) v ∧ (ldP (.pointer (some ⟨gq, 0, none⟩))).run Tryz.prog v = .ok (PV q) v ∧ (ldD (.pointer (some ⟨G + 2, 0, none⟩))).run Tryz.prog v = .ok (RV d) v) (by kernel_rfl) (HSt.out _ (below_drew1 w13)) (fun hHeld => ?_)
  refine wTk 0 ⟨some 88, .load 26 (.tmp 13), 26, "outright.go:141", #[], none⟩ rfl ?_
  refine wTk 1 ⟨some 89, .load 46 (.tmp 5), 46, "outright.go:141", #[], none⟩ rfl ?_
  refine wTk 3 ⟨some 91, .load 26 (.tmp 7), 26, "outright.go:141", #[], none⟩ rfl ?_
  refine wTk 4 ⟨some 92, .load 46 (.tmp 5), 46, "outright.go:141", #[], none⟩ rfl ?_
  refine wpAnyH_ready (rs := [2]) (by kernel_rfl) (by simp) (.cons rfl (fun K hK => ?_) .nil)
  go_simp
  go_wp2_with fail
  have bd := below_drew1 w13
  refine (refHas_any r d _ (HPgr.out.below bd)).mono ?_
  rintro e wa ⟨x, rfl, hx, ba0⟩
  have ba := bd.trans (ba0.mono bd.size)
  have HSa := hide (HSt.out _ ba)
  have Ha := hide ba
  have Hx := hide hx
  refine hK.out _ _ HSa.out (fun hHeld => ?_)
  clear hK K ba0 hx ba bd
  refine wpAnyH_ready (rs := [5]) (by kernel_rfl) (by simp) (.cons rfl (fun K hK => ?_) .nil)
  go_simp
  go_wp2_with fail
  refine (refHas_any p1 d _ (HPp1.out.below Ha.out)).mono ?_
  rintro e wb ⟨y, rfl, hy, bb0⟩
  have bb := Ha.out.trans (bb0.mono Ha.out.size)
  have HSb := hide (HSt.out _ bb)
  have Hb := hide bb
  have Hy := hide hy
  refine hK.out _ _ HSb.out (fun hHeld => ?_)
  clear hK K bb0 hy bb
  refine wTk 6 ⟨some 94, .move (.tmp 93), 4, "outright.go:141", #[⟨5, .data⟩, ⟨5, .chain⟩], none⟩ rfl ?_
  cases y with
  | true =>
   obtain rfl : x = true := Hx.out.2 (HJ.out.2 (.inl (Hy.out.1 rfl)))
   refine wSk 7 ⟨some 95, .load 26 (.tmp 11), 26, "outright.go:141", #[⟨6, .guard⟩], some (6, false)⟩ rfl ?_
   refine wSk 8 ⟨some 96, .load 46 (.tmp 5), 46, "outright.go:141", #[⟨6, .guard⟩], some (6, false)⟩ rfl ?_
   refine wSk 9 ⟨some 97, .call ⟨.value (.func 21), #[.tmp 95, .tmp 96], #[26, 46]⟩, 4, "outright.go:141", #[⟨7, .data⟩, ⟨8, .data⟩, ⟨6, .chain⟩, ⟨6, .guard⟩], some (6, false)⟩ rfl ?_
   refine wTk 10 ⟨some 98, .pick (.tmp 94) (.const (.bool true)) (.tmp 97), 4, "outright.go:141", #[⟨6, .data⟩, ⟨9, .data⟩], none⟩ rfl ?_
   refine wTk 11 ⟨some 99, .binOp .neq 4 (.tmp 90) (.tmp 98) 4, 4, "outright.go:141", #[⟨2, .data⟩, ⟨10, .data⟩], none⟩ rfl ?_
   refine wpAnyH_done (by kernel_rfl) ?_ _
   clear hHeld
   replace HXgp := hide (HXgp.out.below Hb.out)
   replace HPp1 := hide (HPp1.out.below Hb.out)
   replace HXf := hide (HXf.out.below Hb.out)
   replace HOf := hide (HOf.out.below Hb.out)
   replace HXgq := hide (HXgq.out.below Hb.out)
   replace HPgq := hide (HPgq.out.below Hb.out)
   replace HXgr := hide (HXgr.out.below Hb.out)
   replace HPgr := hide (HPgr.out.below Hb.out)
   replace HL := hide (HL.out.below Hb.out)
   replace HC := hide (HC.out.trans (Hb.out.mono HC.out.size))
   clear HSt HSa HSb Hx Hy HJ Ha Hb
   go_wp2_with fail
   have Hn := HL.out.1
   have hnb := HL.out.2.2.2.2
   go_loopw [102] (fun i wr => ∃ k : Nat, k ≤ n ∧ i = .int .i64 k ∧ Hid (Below wb.heap.size wb wr)) (fun i _ => n - (intOf i).toNat)
   case atStart => exact ⟨0, Nat.zero_le _, rfl, Below.refl _ _⟩
   case round =>
    obtain ⟨k, hk, rfl, HBr⟩ := hrel
    rename World => wr
    by_cases hlt : k < n
    ·have hlti : (k : Int) < (n : Int) := by omega
     obtain ⟨ad, hao, A0⟩ := (HL.out.below HBr.out).at k hlt
     subst hao
     obtain ⟨e, He⟩ : ∃ e, Hid ((liveL f).getD k K.en0 = e) := ⟨_, rfl⟩
     rw [He.out] at A0
     have hin : e ∈ liveL f := by rw [← He.out]; exact getE_mem (by rw [Hn]; exact hlt)
     have hld := K.run_ld28 A0
     obtain ⟨g3, hg3⟩ : ∃ g3, wr.heap.size = g3 := ⟨_, rfl⟩
     obtain ⟨w3, hst, X3, B3, -⟩ := K.made wr e g3 hg3
     have HX3 := hide X3
     have HB3 := hide (HBr.out.trans (B3.mono HBr.out.size))
     have Hlt := hide hlt
     have Hin := hide hin
     have ldd : (ldD (.pointer (some ⟨g3, 0, none⟩))).run Tryz.prog w3 = .ok (RV (dotE e)) w3 := run_ldD ⟨X3.at.c0, X3.at.c1⟩
     have lp := run_ldP (HXgr.out.below HB3.out).at
     clear A0 X3 B3 hlt hk hin
     go_wp2_with fail
     clear hld hst hg3 ldd lp
     refine (refHas_any r (dotE e) _ (HPgr.out.below HB3.out)).mono ?_
     rintro x w4 ⟨y, rfl, hy, b4⟩
     obtain rfl : y = true := hy.2 (dotIn_live HIf.out.chk HMr.out Hin.out)
     have HB4 := hide (HB3.out.trans (b4.mono HB3.out.size))
     clear hy b4
     go_wp2_with fail
     go_roundw
     case rel => exact ⟨k + 1, Hlt.out, by have := Hlt.out; simp, HB4.out⟩
     case measure => simp [intOf]; have := Hlt.out; omega
    ·have hlti : ¬ (k : Int) < (n : Int) := by omega
     have HW := hide (HC.out.trans (HBr.out.mono HC.out.size))
     have la := run_ldFa (HX.out.below HW.out)
     obtain ⟨g5, hg5⟩ : ∃ g, wr.heap.size = g := ⟨_, rfl⟩
     obtain ⟨w5, hst, X5, B5, -⟩ := madeFa wr (mkF a) g5 hg5
     replace hst : (stFa (.pointer (some ⟨g5, 0, none⟩)) (FaV (mkF a))).run Tryz.prog (wr.alloc (.cells (FaC (mkF fz0)) 29)) = .ok () w5 := hst
     have hfz := X5.fzT 3
     obtain ⟨-, c3⟩ := X5.cs
     have X6 := X5.bare
     have B6 : Below wr.heap.size wr (w5.setCell ⟨g5, 3, none⟩ (.slice none 0 0)) := set_belowT B5 (by omega)
     obtain ⟨w6, hw6⟩ : ∃ w6, w5.setCell ⟨g5, 3, none⟩ (.slice none 0 0) = w6 := ⟨_, rfl⟩
     rw [hw6] at X6 B6
     have HW6 := hide (HW.out.trans (B6.mono HW.out.size))
     have HR6 := hide (HBr.out.trans (B6.mono HBr.out.size))
     have lb := run_ldFa X6
     clear X5 B5 X6 B6 hk
     go_wp2_with fail
     clear hst hg5 la lb hfz c3 hw6
     refine (tPast_any (bareF a) _ (bare_ok (HA.out.below HW6.out))).mono ?_
     rintro e w7 ⟨z, er, rfl, P7, -, b7, D7⟩
     obtain ⟨rfl, I7, M7⟩ := D7.holds (bare_form HW1.out.1)
     have HEq : Hid (z.P = p1.P) := past_one (f := a) I7 HIp.out M7 HMp.out
     obtain ⟨g8, hg0⟩ : ∃ g, w7.heap.size = g := ⟨_, rfl⟩
     obtain ⟨w8, hst, X8, B8, -⟩ := madeP w7 z g8 hg0
     replace hst : (stP (.pointer (some ⟨g8, 0, none⟩)) (PV z)).run Tryz.prog (w7.alloc (.cells #[.slice none 0 0, .slice none 0 0] 26)) = .ok () w8 := hst
     have b78 := b7.trans (B8.mono b7.size)
     have HW8 := hide (HW6.out.trans (b78.mono HW6.out.size))
     have HR8 := hide (HR6.out.trans (b78.mono HR6.out.size))
     have HZ8 := hide (P7.below B8)
     have lz := run_ldP X8.at
     have lp := run_ldP (HXgp.out.below HR8.out).at
     clear P7 b7 D7 I7 M7 X8 B8 b78
     go_wp2_with fail
     clear hst hg0 lz lp
     refine (samePast_any z p1 _ HZ8.out (HPp1.out.below HR8.out)).mono ?_
     rintro e w9 ⟨y, rfl, hy, b9⟩
     obtain rfl : y = true := hy.2 HEq.out
     have HE := hide (HBK.out.trans ((HW8.out.trans (b9.mono HW8.out.size)).mono HBK.out.size))
     clear hy b9
     go_wp2_with fail
     go_ret
     exact ⟨rfl, HE.out⟩
  | false =>
   refine wTk 7 ⟨some 95, .load 26 (.tmp 11), 26, "outright.go:141", #[⟨6, .guard⟩], some (6, false)⟩ rfl ?_
   refine wTk 8 ⟨some 96, .load 46 (.tmp 5), 46, "outright.go:141", #[⟨6, .guard⟩], some (6, false)⟩ rfl ?_
   refine wpAnyH_ready (rs := [9]) (by kernel_rfl) (by simp) (.cons rfl (fun K hK => ?_) .nil)
   go_simp
   go_wp2_with fail
   refine (refHas_any q d _ (HPgq.out.below Hb.out)).mono ?_
   rintro e wc ⟨z, rfl, hz, bc0⟩
   have bc := Hb.out.trans (bc0.mono Hb.out.size)
   have HSc := hide (HSt.out _ bc)
   have Hc := hide bc
   obtain rfl : x = z := by
    rw [Bool.eq_iff_iff]
    refine Hx.out.trans (HJ.out.trans ⟨fun h => h.elim (fun h => by have := Hy.out.2 h; cases this) hz.2, fun h => .inr (hz.1 h)⟩)
   refine hK.out _ _ HSc.out (fun hHeld => ?_)
   clear hK K bc0 hz bc
   refine wTk 10 ⟨some 98, .pick (.tmp 94) (.const (.bool true)) (.tmp 97), 4, "outright.go:141", #[⟨6, .data⟩, ⟨9, .data⟩], none⟩ rfl ?_
   refine wTk 11 ⟨some 99, .binOp .neq 4 (.tmp 90) (.tmp 98) 4, 4, "outright.go:141", #[⟨2, .data⟩, ⟨10, .data⟩], none⟩ rfl ?_
   refine wpAnyH_done (by kernel_rfl) ?_ _
   clear hHeld
   replace HXgp := hide (HXgp.out.below Hc.out)
   replace HPp1 := hide (HPp1.out.below Hc.out)
   replace HXf := hide (HXf.out.below Hc.out)
   replace HOf := hide (HOf.out.below Hc.out)
   replace HXgq := hide (HXgq.out.below Hc.out)
   replace HPgq := hide (HPgq.out.below Hc.out)
   replace HXgr := hide (HXgr.out.below Hc.out)
   replace HPgr := hide (HPgr.out.below Hc.out)
   replace HL := hide (HL.out.below Hc.out)
   replace HC := hide (HC.out.trans (Hc.out.mono HC.out.size))
   clear HSt HSa HSb HSc Hx Hy HJ Ha Hb Hc
   have hxx : (x != x) = false := by cases x <;> rfl
   go_wp2_with fail
   have Hn := HL.out.1
   have hnb := HL.out.2.2.2.2
   go_loopw [102] (fun i wr => ∃ k : Nat, k ≤ n ∧ i = .int .i64 k ∧ Hid (Below wc.heap.size wc wr)) (fun i _ => n - (intOf i).toNat)
   case atStart => exact ⟨0, Nat.zero_le _, rfl, Below.refl _ _⟩
   case round =>
    obtain ⟨k, hk, rfl, HBr⟩ := hrel
    rename World => wr
    by_cases hlt : k < n
    ·have hlti : (k : Int) < (n : Int) := by omega
     obtain ⟨ad, hao, A0⟩ := (HL.out.below HBr.out).at k hlt
     subst hao
     obtain ⟨e, He⟩ : ∃ e, Hid ((liveL f).getD k K.en0 = e) := ⟨_, rfl⟩
     rw [He.out] at A0
     have hin : e ∈ liveL f := by rw [← He.out]; exact getE_mem (by rw [Hn]; exact hlt)
     have hld := K.run_ld28 A0
     obtain ⟨g3, hg3⟩ : ∃ g3, wr.heap.size = g3 := ⟨_, rfl⟩
     obtain ⟨w3, hst, X3, B3, -⟩ := K.made wr e g3 hg3
     have HX3 := hide X3
     have HB3 := hide (HBr.out.trans (B3.mono HBr.out.size))
     have Hlt := hide hlt
     have Hin := hide hin
     have ldd : (ldD (.pointer (some ⟨g3, 0, none⟩))).run Tryz.prog w3 = .ok (RV (dotE e)) w3 := run_ldD ⟨X3.at.c0, X3.at.c1⟩
     have lp := run_ldP (HXgr.out.below HB3.out).at
     clear A0 X3 B3 hlt hk hin
     go_wp2_with fail
     clear hld hst hg3 ldd lp
     refine (refHas_any r (dotE e) _ (HPgr.out.below HB3.out)).mono ?_
     rintro x w4 ⟨y, rfl, hy, b4⟩
     obtain rfl : y = true := hy.2 (dotIn_live HIf.out.chk HMr.out Hin.out)
     have HB4 := hide (HB3.out.trans (b4.mono HB3.out.size))
     clear hy b4
     go_wp2_with fail
     go_roundw
     case rel => exact ⟨k + 1, Hlt.out, by have := Hlt.out; simp, HB4.out⟩
     case measure => simp [intOf]; have := Hlt.out; omega
    ·have hlti : ¬ (k : Int) < (n : Int) := by omega
     have HW := hide (HC.out.trans (HBr.out.mono HC.out.size))
     have la := run_ldFa (HX.out.below HW.out)
     obtain ⟨g5, hg5⟩ : ∃ g, wr.heap.size = g := ⟨_, rfl⟩
     obtain ⟨w5, hst, X5, B5, -⟩ := madeFa wr (mkF a) g5 hg5
     replace hst : (stFa (.pointer (some ⟨g5, 0, none⟩)) (FaV (mkF a))).run Tryz.prog (wr.alloc (.cells (FaC (mkF fz0)) 29)) = .ok () w5 := hst
     have hfz := X5.fzT 3
     obtain ⟨-, c3⟩ := X5.cs
     have X6 := X5.bare
     have B6 : Below wr.heap.size wr (w5.setCell ⟨g5, 3, none⟩ (.slice none 0 0)) := set_belowT B5 (by omega)
     obtain ⟨w6, hw6⟩ : ∃ w6, w5.setCell ⟨g5, 3, none⟩ (.slice none 0 0) = w6 := ⟨_, rfl⟩
     rw [hw6] at X6 B6
     have HW6 := hide (HW.out.trans (B6.mono HW.out.size))
     have HR6 := hide (HBr.out.trans (B6.mono HBr.out.size))
     have lb := run_ldFa X6
     clear X5 B5 X6 B6 hk
     go_wp2_with fail
     clear hst hg5 la lb hfz c3 hw6
     refine (tPast_any (bareF a) _ (bare_ok (HA.out.below HW6.out))).mono ?_
     rintro e w7 ⟨z, er, rfl, P7, -, b7, D7⟩
     obtain ⟨rfl, I7, M7⟩ := D7.holds (bare_form HW1.out.1)
     have HEq : Hid (z.P = p1.P) := past_one (f := a) I7 HIp.out M7 HMp.out
     obtain ⟨g8, hg0⟩ : ∃ g, w7.heap.size = g := ⟨_, rfl⟩
     obtain ⟨w8, hst, X8, B8, -⟩ := madeP w7 z g8 hg0
     replace hst : (stP (.pointer (some ⟨g8, 0, none⟩)) (PV z)).run Tryz.prog (w7.alloc (.cells #[.slice none 0 0, .slice none 0 0] 26)) = .ok () w8 := hst
     have b78 := b7.trans (B8.mono b7.size)
     have HW8 := hide (HW6.out.trans (b78.mono HW6.out.size))
     have HR8 := hide (HR6.out.trans (b78.mono HR6.out.size))
     have HZ8 := hide (P7.below B8)
     have lz := run_ldP X8.at
     have lp := run_ldP (HXgp.out.below HR8.out).at
     clear P7 b7 D7 I7 M7 X8 B8 b78
     go_wp2_with fail
     clear hst hg0 lz lp
     refine (samePast_any z p1 _ HZ8.out (HPp1.out.below HR8.out)).mono ?_
     rintro e w9 ⟨y, rfl, hy, b9⟩
     obtain rfl : y = true := hy.2 HEq.out
     have HE := hide (HBK.out.trans ((HW8.out.trans (b9.mono HW8.out.size)).mono HBK.out.size))
     clear hy b9
     go_wp2_with fail
     go_ret
     exact ⟨rfl, HE.out⟩
theorem cellsDtT : Tryz.prog.cellsOf 46 = 2 := by kernel_rfl
theorem cellsIT : Tryz.prog.cellsOf 3 = 1 := by kernel_rfl
theorem list2T {α : Type} {l : List α} (h : l.length = 2) : ∃ a b, l = [a, b] := by
 match l, h with
 | [a, b], _ => exact ⟨a, b, rfl⟩
theorem open_dotU {H : Type} {enc : TypeId × Value → H} {w : World} {base : Nat} {spare : Nat → Bool} {held : Bool} {fuel : Nat} {cs : List Value} {x : DataW H × List MemPlace}
  (h : DataW.trod enc Tryz.prog w base spare held fuel 46 cs = some x) (_hw : Rows.uptoBulk x.1 ≤ 1048576) : ∃ e : Rn, cs = (RC e).toList ∧ True := by
 obtain ⟨xs, m, _, hx, hcl, hxl, hf⟩ := DataW.trod_struct Tryz.underlying46 h
 obtain ⟨v0, v1, rfl⟩ := list2T (hcl.trans cellsDtT)
 obtain ⟨y0, y1, rfl⟩ := list2T hxl
 have t0 := hf 0 _ rfl
 have t1 := hf 1 _ rfl
 simp [cellsIT] at t0 t1
 obtain ⟨r, e0, -, _⟩ := DataW.trod_int Tryz.underlying3 t0
 obtain ⟨n, e1, -, _⟩ := DataW.trod_int Tryz.underlying3 t1
 simp only [List.cons.injEq, and_true] at e0 e1
 subst e0 e1
 exact ⟨⟨r, n⟩, rfl, trivial⟩
theorem tombHears_u (a b : Fc) (d : Rn) (w : World) (hA : FcU w a) (hB : FcU w b) (_h : True) :
  Calls Tryz.prog 5 #[FaV (mkF a), FaV (mkF b), RV d] w fun e w' => e = .returned (.bool true) ∧ Below w.heap.size w w' := tombHears_law a b d w hA hB
end Go.Proofs.YtehcehhfdhiomaaGreat
