/- TCo TNe -/
import Derived.Test.YtalpnhfoaohhhaaGreatTk
import Derived.Test.YtalpnhfoaohhhaaGreatTd34
import Derived.Test.YtalpnhfoaohhhaaGreatTd35
import Derived.Test.YtalpnhfoaohhhaaGreatTd21
import Derived.Test.YtalpnhfoaohhhaaGreatTd00
import Derived.Test.YtalpnhfoaohhhaaGreatTd17
import Derived.Test.YtalpnhfoaohhhaaGreatTd18
set_option maxRecDepth 100000
set_option maxHeartbeats 6400000
namespace Go.Proofs.YtalpnhfoaohhhaaGreat
section
open Go.RowKit Go.Maps
theorem OwnI.empty {w w' : World} (hb : Below w.heap.size w w') : OwnI w.heap.size w.heap.size w (w'.alloc (.cells #[] 3)) (some ⟨w'.heap.size, 0, none⟩) 0 [] :=
 ⟨⟨rfl, Or.inr ⟨w'.heap.size, 0, #[], rfl, hb.size, heap_alloc_new _ _, Nat.le_refl _, Nat.zero_le _, rfl, rfl⟩⟩, hb.alloc hb.size _, by simp; have := hb.size; omega, Nat.le_refl _⟩
theorem OwnS.empty {w w' : World} (hb : Below w.heap.size w w') : OwnS w.heap.size w.heap.size w (w'.alloc (.cells #[] 99)) (some ⟨w'.heap.size, 0, none⟩) 0 [] :=
 ⟨⟨rfl, Or.inr ⟨w'.heap.size, 0, #[], rfl, hb.size, heap_alloc_new _ _, Nat.le_refl _, Nat.zero_le _, rfl, rfl⟩⟩, hb.alloc hb.size _, by simp; have := hb.size; omega, Nat.le_refl _⟩
theorem OwnI.keepC {B0 B : Nat} {w W W' : World} {a : Option Addr} {c : Nat} {L : List Int} (O : OwnI B0 B w W a c L) (hk : ∀ k, (Value.slice a L.length c).ownBlock = some k -> W'.heap[k]? = W.heap[k]?) (hb : Below B0 w W') (hs : W.heap.size <= W'.heap.size) : OwnI B0 B w W' a c L := by
 refine ⟨⟨O.own.1, ?_⟩, hb, Nat.le_trans O.hB hs, O.hB0⟩
 rcases O.own.2 with h | ⟨g, cap2, cur, hv, hbg, hgg, r⟩
 ·exact Or.inl h
 ·exact Or.inr ⟨g, cap2, cur, hv, hbg, (hk g (by rw [hv]; rfl)).trans hgg, r⟩
theorem OwnS.keepC {B0 B : Nat} {w W W' : World} {a : Option Addr} {c : Nat} {L : List Sn} (O : OwnS B0 B w W a c L) (hk : ∀ k, (Value.slice a L.length c).ownBlock = some k -> W'.heap[k]? = W.heap[k]?) (hb : Below B0 w W') (hs : W.heap.size <= W'.heap.size) : OwnS B0 B w W' a c L := by
 refine ⟨⟨O.own.1, ?_⟩, hb, Nat.le_trans O.hB hs, O.hB0⟩
 rcases O.own.2 with h | ⟨g, cap2, cur, hv, hbg, hgg, r⟩
 ·exact Or.inl h
 ·exact Or.inr ⟨g, cap2, cur, hv, hbg, (hk g (by rw [hv]; rfl)).trans hgg, r⟩
theorem SSrc.cells {w : World} {ad : Addr} {n c : Nat} {L : List Sn} (h : SSrc w (some ad) n c L) : ∀ j u, (scs L)[j]? = some u -> w.cell? (ad.add j) = some u := fun j u hj => by
 have hl : j < (scs L).length := (List.getElem?_eq_some_iff.1 hj).1
 rw [scs_length] at hl
 have hn := h.len
 have ht : j / 3 < L.length := by omega
 have e : j = j / 3 * 3 + j % 3 := by omega
 have hm : j % 3 < 3 := by omega
 have A := h.cell ad rfl (j / 3) (by omega)
 rw [e, scs_at L (j / 3) (j % 3) ht hm] at hj
 rw [e, <- add_add]
 rcases (show j % 3 = 0 ∨ j % 3 = 1 ∨ j % 3 = 2 by omega) with q | q | q <;> rw [q] at hj ⊢
 ·rw [add_zero]
  exact (A.c0).trans hj
 ·exact (A.c1).trans hj
 ·exact (A.c2).trans hj
theorem scs_onecell (L : List Sn) : ∀ v ∈ scs L, v.oneCell' = true := by
 intro v hv
 obtain ⟨l, hl, hv⟩ := List.mem_flatten.1 hv
 obtain ⟨r, _, rfl⟩ := List.mem_map.1 hl
 exact SC_one r v hv
theorem OwnI.appRun {B0 B : Nat} {w W : World} {ao : Option Addr} {cap : Nat} {acc : List Int} (O : OwnI B0 B w W ao cap acc) (bo : Option Addr) (m c : Nat) (R : List Int) (hR : V.Src W bo m c R) (n l : Nat) (hn : acc.length = n) (hl : n + m = l) (hlen : l <= 17592186044415) :
  ∃ a' c' W', (Builtin.append_ #[23, 23] 23 #[.slice ao n cap, .slice bo m c]).run Tryz.prog W = .ok (.slice a' l c') W' /\ OwnI B0 B w W' a' c' (acc ++ R) /\ (∀ q, q < W.heap.size -> (Value.slice ao n cap).ownBlock ≠ some q -> W'.heap[q]? = W.heap[q]?) /\ ((Value.slice a' l c').ownBlock = (Value.slice ao n cap).ownBlock ∨ (Value.slice a' l c').ownBlock = some W.heap.size) /\ W.heap.size <= W'.heap.size := by
 subst hn hl
 obtain ⟨i0, hi, hz0, hz1, hz2⟩ := info_parts infoI
 have hB := O.hB
 have hB0 := O.hB0
 cases bo with
 | none =>
  obtain ⟨rfl, rfl⟩ := hR.2.1 rfl
  obtain rfl : R = [] := List.eq_nil_of_length_eq_zero hR.1
  have hrun := run_append_owned_none (P := Tryz.prog) (w := W) B 23 23 3 i0 1 Tryz.underlying23 hi _ acc.length (ics acc) O.own
  exact ⟨ao, cap, W, hrun, by rw [List.append_nil]; exact O, fun _ _ _ => rfl, .inl rfl, Nat.le_refl _⟩
 | some ad =>
  obtain ⟨v', W2, hrun, hown, hgrow, _, hat⟩ := run_append_own_at (P := Tryz.prog) W B 23 23 3 i0 (.int .i64 0) 1 8 Tryz.underlying23 hi hz0 hz1 hz2 rfl (by decide) (.slice ao acc.length cap) acc.length (ics acc) O.own ad m c (ics R) (by rw [ics_length, hR.1, Nat.mul_one]) (fun j u hj => by
   have hl : j < R.length := by rw [<- ics_length]; exact (List.getElem?_eq_some_iff.1 hj).1
   rw [ics_at R j hl] at hj
   rw [hR.2.2 ad rfl j (by rw [<- hR.1]; exact hl)]
   exact hj) (ics_one R) (by unfold maxLen; omega) (by omega) hB
  have hrow : ∀ k, (Value.slice ao acc.length cap).ownBlock = some k -> B <= k := fun k hk => (O.own.lt k hk).1
  have hsz := hgrow.size
  have hbel : Below B0 w W2 := O.below.grown hgrow (by omega) (fun k hk => by have := hrow k hk; omega)
  have hm : m = R.length := hR.1.symm
  have hown2 : W2.ownsRow B 3 1 v' (acc ++ R).length (ics (acc ++ R)) := by rw [List.length_append, ics_append, <- hm]; exact hown
  rcases hown.2 with ⟨h0, h00⟩ | ⟨g, cap2, cur, hv, r⟩
  ·subst h0
   have e0 : acc.length + m = 0 := h00
   rw [e0]
   refine ⟨none, 0, W2, hrun, ⟨?_, hbel, by omega, hB0⟩, fun q hq hn => hgrow.block q hq (fun e => hn e.symm), hat, hsz⟩
   rw [List.length_append, <- hm, e0] at hown2
   rw [List.length_append, <- hm, e0]
   exact hown2
  ·subst hv
   refine ⟨some ⟨g, 0, none⟩, cap2, W2, hrun, ⟨?_, hbel, by omega, hB0⟩, fun q hq hn => hgrow.block q hq (fun e => hn e.symm), hat, hsz⟩
   rw [List.length_append, <- hm] at hown2 ⊢
   exact hown2
theorem OwnS.appRun {B0 B : Nat} {w W : World} {ao : Option Addr} {cap : Nat} {acc : List Sn} (O : OwnS B0 B w W ao cap acc) (bo : Option Addr) (m c : Nat) (R : List Sn) (hR : SSrc W bo m c R) (n l : Nat) (hn : acc.length = n) (hl : n + m = l) (hlen : l <= 5864062014805) :
  ∃ a' c' W', (Builtin.append_ #[24, 24] 24 #[.slice ao n cap, .slice bo m c]).run Tryz.prog W = .ok (.slice a' l c') W' /\ OwnS B0 B w W' a' c' (acc ++ R) /\ (∀ q, q < W.heap.size -> (Value.slice ao n cap).ownBlock ≠ some q -> W'.heap[q]? = W.heap[q]?) /\ ((Value.slice a' l c').ownBlock = (Value.slice ao n cap).ownBlock ∨ (Value.slice a' l c').ownBlock = some W.heap.size) /\ W.heap.size <= W'.heap.size := by
 subst hn hl
 obtain ⟨i0, hi, hz0, hz1, hz2⟩ := info_parts infoS3
 have hB := O.hB
 have hB0 := O.hB0
 cases bo with
 | none =>
  obtain ⟨rfl, rfl⟩ := hR.nil rfl
  obtain rfl : R = [] := List.eq_nil_of_length_eq_zero hR.len
  have hrun := run_append_owned_none (P := Tryz.prog) (w := W) B 24 24 99 i0 3 Tryz.underlying24 hi _ acc.length (scs acc) O.own
  exact ⟨ao, cap, W, hrun, by rw [List.append_nil]; exact O, fun _ _ _ => rfl, .inl rfl, Nat.le_refl _⟩
 | some ad =>
  obtain ⟨v', W2, hrun, hown, hgrow, _, hat⟩ := run_append_own_at (P := Tryz.prog) W B 24 24 99 i0 (.agg #[.int .i64 0, .int .i64 0, .int .i64 0]) 3 24 Tryz.underlying24 hi hz0 hz1 hz2 rfl (by decide) (.slice ao acc.length cap) acc.length (scs acc) O.own ad m c (scs R) (by rw [scs_length, hR.len]) hR.cells (scs_onecell R) (by unfold maxLen; omega) (by omega) hB
  have hrow : ∀ k, (Value.slice ao acc.length cap).ownBlock = some k -> B <= k := fun k hk => (O.own.lt k hk).1
  have hsz := hgrow.size
  have hbel : Below B0 w W2 := O.below.grown hgrow (by omega) (fun k hk => by have := hrow k hk; omega)
  have hm : m = R.length := hR.len.symm
  have hown2 : W2.ownsRow B 99 3 v' (acc ++ R).length (scs (acc ++ R)) := by rw [List.length_append, scs_append, <- hm]; exact hown
  rcases hown.2 with ⟨h0, h00⟩ | ⟨g, cap2, cur, hv, r⟩
  ·subst h0
   have e0 : acc.length + m = 0 := h00
   rw [e0]
   refine ⟨none, 0, W2, hrun, ⟨?_, hbel, by omega, hB0⟩, fun q hq hn => hgrow.block q hq (fun e => hn e.symm), hat, hsz⟩
   rw [List.length_append, <- hm, e0] at hown2
   rw [List.length_append, <- hm, e0]
   exact hown2
  ·subst hv
   refine ⟨some ⟨g, 0, none⟩, cap2, W2, hrun, ⟨?_, hbel, by omega, hB0⟩, fun q hq hn => hgrow.block q hq (fun e => hn e.symm), hat, hsz⟩
   rw [List.length_append, <- hm] at hown2 ⊢
   exact hown2
theorem give_past {w W : World} {g : Nat} {m p : Pv} {Q : Pst -> Prop} (hX : PBox W g m) (hP : PSrc W p) (hN : PNew (g + 1) p) (hb : Below w.heap.size w W) (hg : w.heap.size <= g) (hQ : Q p.P) : PBox (W.setRow g (PC p)) g p /\ GivesP w (W.setRow g (PC p)) (.returned (PV p)) Q :=
 ⟨setRow_heap W g _ _ _ _ hX, p, rfl, psrc_off hP (fun ad e => setRow_other _ _ _ _ (by have := hN.1 ad e; omega)) (fun ad e => setRow_other _ _ _ _ (by have := hN.2 ad e; omega)), hN.mono (by omega), below_setRow hb hg, hQ⟩
structure CpW (w W : World) (I : Option (Option Addr × Nat × List Int)) (S : Option (Option Addr × Nat × List Sn)) : Prop where
 bel : Below w.heap.size w W
 i : ∀ a c L, I = some (a, c, L) -> OwnI w.heap.size w.heap.size w W a c L
 s : ∀ a c L, S = some (a, c, L) -> OwnS w.heap.size w.heap.size w W a c L
 ap : ∀ a c L a' c' L' k, I = some (a, c, L) -> S = some (a', c', L') -> (Value.slice a L.length c).ownBlock = some k -> (Value.slice a' L'.length c').ownBlock ≠ some k
theorem CpW.start {w W : World} (h : Below w.heap.size w W) : CpW w W none none := ⟨h, fun _ _ _ e => (by cases e), fun _ _ _ e => (by cases e), fun _ _ _ _ _ _ _ e => (by cases e)⟩
theorem CpW.mkI {w W : World} {S : Option (Option Addr × Nat × List Sn)} (h : CpW w W none S) : CpW w (W.alloc (.cells #[] 3)) (some (some ⟨W.heap.size, 0, none⟩, 0, [])) S := by
 refine ⟨h.bel.alloc h.bel.size _, fun a c L e => ?_, fun a c L e => (h.s a c L e).later (below_new W _), fun a c L a' c' L' k e1 e2 hk h2 => ?_⟩
 ·cases e; exact OwnI.empty h.bel
 ·cases e1
  have := ((h.s _ _ _ e2).own.lt k h2).2
  have : W.heap.size = k := Option.some.inj hk
  omega
theorem CpW.mkS {w W : World} {I : Option (Option Addr × Nat × List Int)} (h : CpW w W I none) : CpW w (W.alloc (.cells #[] 99)) I (some (some ⟨W.heap.size, 0, none⟩, 0, [])) := by
 refine ⟨h.bel.alloc h.bel.size _, fun a c L e => (h.i a c L e).later (below_new W _), fun a c L e => ?_, fun a c L a' c' L' k e1 e2 hk h2 => ?_⟩
 ·cases e; exact OwnS.empty h.bel
 ·cases e2
  have := ((h.i _ _ _ e1).own.lt k hk).2
  have : W.heap.size = k := Option.some.inj h2
  omega
theorem CpW.appI {w W : World} {S : Option (Option Addr × Nat × List Sn)} {a : Option Addr} {c : Nat} (h : CpW w W (some (a, c, [])) S) {p : Pv} (hp : PSrc W p) :
  ∃ a' c' W', (Builtin.append_ #[23, 23] 23 #[.slice a 0 c, .slice p.vo p.vn p.vc]).run Tryz.prog W = .ok (.slice a' p.vn c') W' /\ CpW w W' (some (a', c', p.P.vec)) S /\ Below w.heap.size w W' := by
 have O := h.i _ _ _ rfl
 obtain ⟨a', c', W', hr, O', hk, hat, hsz⟩ := O.appRun p.vo p.vn p.vc p.P.vec hp.vec 0 p.vn rfl (Nat.zero_add _) hp.big
 rw [List.nil_append] at O'
 have hl : p.P.vec.length = p.vn := hp.vec.1
 refine ⟨a', c', W', hr, ⟨O'.below, fun a2 c2 L2 e => by cases e; exact O', fun a2 c2 L2 e => ?_, fun a2 c2 L2 a3 c3 L3 k e1 e2 h1 h2 => ?_⟩, O'.below⟩
 ·have O2 := h.s _ _ _ e
  exact O2.keepC (fun k hk2 => hk k (O2.own.lt k hk2).2 (fun e3 => h.ap _ _ _ _ _ _ k rfl e e3 hk2)) O'.below hsz
 ·cases e1
  rw [hl] at h1
  have h4 := ((h.s _ _ _ e2).own.lt k h2).2
  rcases hat with q | q
  ·exact h.ap _ _ _ _ _ _ k rfl e2 (q.symm.trans h1) h2
  ·have := Option.some.inj (q.symm.trans h1)
   omega
theorem CpW.appS {w W : World} {I : Option (Option Addr × Nat × List Int)} {a : Option Addr} {c : Nat} (h : CpW w W I (some (a, c, []))) {p : Pv} (hp : PSrc W p) :
  ∃ a' c' W', (Builtin.append_ #[24, 24] 24 #[.slice a 0 c, .slice p.co p.cn p.cc]).run Tryz.prog W = .ok (.slice a' p.cn c') W' /\ CpW w W' I (some (a', c', p.P.cloud)) /\ Below w.heap.size w W' := by
 have O := h.s _ _ _ rfl
 obtain ⟨a', c', W', hr, O', hk, hat, hsz⟩ := O.appRun p.co p.cn p.cc p.P.cloud hp.cloud 0 p.cn rfl (Nat.zero_add _) (by have := hp.cloud.len; have := hp.cloud.big; omega)
 rw [List.nil_append] at O'
 have hl : p.P.cloud.length = p.cn := hp.cloud.len
 refine ⟨a', c', W', hr, ⟨O'.below, fun a2 c2 L2 e => ?_, fun a2 c2 L2 e => (by cases e; exact O'), fun a2 c2 L2 a3 c3 L3 k e1 e2 h1 h2 => ?_⟩, O'.below⟩
 ·have O2 := h.i _ _ _ e
  exact O2.keepC (fun k hk2 => hk k (O2.own.lt k hk2).2 (fun e3 => h.ap _ _ _ _ _ _ k e rfl hk2 e3)) O'.below hsz
 ·cases e2
  rw [hl] at h2
  have h4 := ((h.i _ _ _ e1).own.lt k h1).2
  rcases hat with q | q
  ·exact h.ap _ _ _ _ _ _ k e1 rfl h1 (q.symm.trans h2)
  ·have := Option.some.inj (q.symm.trans h2)
   omega
theorem CpW.past {w W : World} {a b : Option Addr} {c d : Nat} {p : Pv} (h : CpW w W (some (a, c, p.P.vec)) (some (b, d, p.P.cloud))) {w0 : World} (hp : PSrc w0 p) : PSrc W ⟨a, p.vn, c, b, p.cn, d, p.P⟩ /\ PNew w.heap.size ⟨a, p.vn, c, b, p.cn, d, p.P⟩ := by
 obtain ⟨s1, n1, -, -⟩ := (h.i _ _ _ rfl).src
 obtain ⟨s2, n2⟩ := (h.s _ _ _ rfl).src (by have := hp.cloud.len; have := hp.cloud.big; omega)
 rw [hp.vec.1] at s1
 rw [hp.cloud.len] at s2
 exact ⟨⟨s1, s2, hp.big⟩, n1, n2⟩
attribute [local go_sem ↓] ldP_eq stP_eq bldP_eq run_bldP2
attribute [local go_sem] cells_PV PC_size zero_PC
theorem copyPast_any (p : Pv) (w : World) (hP : PSrc w p) : Calls Tryz.prog 35 #[PV p] w fun e w' => GivesP w w' e (fun P => P = p.P) := by
 have b2 := below_new w (.cells (PC p) 26)
 have X2 := pbox_new w p
 obtain ⟨w2, hw2⟩ : ∃ w2, w.alloc (.cells (PC p) 26) = w2 := ⟨_, rfl⟩
 have hs2 : w2.heap.size = w.heap.size + 1 := by rw [<- hw2]; simp
 rw [hw2] at b2 X2
 have b3 := below_new w2 (.cells (PC pv0) 26)
 have X3 := pbox_new w2 pv0
 obtain ⟨wk, hwk⟩ : ∃ wk, w2.alloc (.cells (PC pv0) 26) = wk := ⟨_, rfl⟩
 have hs3 : wk.heap.size = w.heap.size + 2 := by rw [<- hwk]; simp [hs2]
 rw [hwk] at b3 X3
 rw [hs2] at X3
 obtain ⟨G, hG0⟩ : ∃ G, w.heap.size = G := ⟨_, rfl⟩
 have HS3 : Hid (wk.heap.size = G + 2 /\ w.heap.size = G) := ⟨by rw [hs3, hG0], hG0⟩
 rw [hG0] at X3 X2
 have HX := hide (X2.below b3)
 have HZ := hide X3
 have HBK := hide (b2.trans (b3.mono b2.size))
 have HP := hide (hP.below HBK.out)
 have HC0 := hide (CpW.start (below_drew1 wk))
 have HSt : Hid (∀ W : World, W.heap[G]? = wk.heap[G]? -> W.cell? ⟨G, 0, none⟩ = some (.slice p.vo p.vn p.vc) /\ W.cell? ⟨G, 1, none⟩ = some (.slice p.co p.cn p.cc)) := fun W hW => PBox.nums (p := p) (hW.trans HX.out)
 have HLt : Hid (G < wk.heap.size) := HX.out.lt
 clear hP b2 b3 X2 X3 hs3
 go_enter Tryz.func35, Tryz.ntmps35
 go_upto_region 1 with fail
 clear hw2 hwk hG0 hs2
 refine wp_region_held_drew (S := fun W => W.cell? ⟨G, 0, none⟩ = some (.slice p.vo p.vn p.vc) /\ W.cell? ⟨G, 1, none⟩ = some (.slice p.co p.cn p.cc)) (by kernel_rfl) (HSt.out _ ((below_drew1 wk).block G HLt.out)) (fun hHeld => ?_)
 refine wTk 1 ⟨some 4, .fieldAddr 26 (.tmp 1) 0, 0, "ref.go:173", #[], none⟩ rfl ?_
 refine wTk 2 ⟨some 5, .load 23 (.tmp 4), 23, "ref.go:173", #[⟨1, .data⟩], none⟩ rfl ?_
 refine wTk 5 ⟨some 8, .fieldAddr 26 (.tmp 1) 1, 0, "ref.go:173", #[], none⟩ rfl ?_
 refine wTk 6 ⟨some 9, .load 24 (.tmp 8), 24, "ref.go:173", #[⟨5, .data⟩], none⟩ rfl ?_
 obtain ⟨u0, hu0⟩ : ∃ u, wk.drew = u := ⟨_, rfl⟩
 rw [hu0] at HC0
 rw [hu0]
 clear hu0
 refine wpAnyH_ready (rs := [0, 4]) (by kernel_rfl) (by simp) ?_
 refine AllReadyH.cons rfl (fun K hK => ?_) (AllReadyH.cons rfl (fun K hK => ?_) AllReadyH.nil)
 ·obtain ⟨g1, hg1⟩ : ∃ g, u0.heap.size = g := ⟨_, rfl⟩
  have HC1 := hide HC0.out.mkI
  obtain ⟨u1, hu1⟩ : ∃ u, u0.alloc (.cells #[] 3) = u := ⟨_, rfl⟩
  rw [hu1] at HC1
  rw [hg1] at HC1
  go_simp
  refine hK.out _ _ (HSt.out _ (HC1.out.bel.block G HLt.out)) (fun hHeld => ?_)
  clear hK K
  clear hu1 hg1
  refine wpAnyH_ready (rs := [3, 4]) (by kernel_rfl) (by simp) ?_
  refine AllReadyH.cons rfl (fun K hK => ?_) (AllReadyH.cons rfl (fun K hK => ?_) AllReadyH.nil)
  ·obtain ⟨a2, c2, u2, r2, C2, bb2⟩ := HC1.out.appI (HP.out.below HC1.out.bel)
   have HC2 := hide C2
   refine step_appM (by rfl) (.tmp 3) (.tmp 5) (by rfl) (by rfl) (by rfl) r2 ?_
   refine hK.out _ _ (HSt.out _ (HC2.out.bel.block G HLt.out)) (fun hHeld => ?_)
   clear hK K
   clear C2 bb2 r2
   refine wpAnyH_ready (rs := [4]) (by kernel_rfl) (by simp) ?_
   refine AllReadyH.cons rfl (fun K hK => ?_) AllReadyH.nil
   obtain ⟨g3, hg3⟩ : ∃ g, u2.heap.size = g := ⟨_, rfl⟩
   have HC3 := hide HC2.out.mkS
   obtain ⟨u3, hu3⟩ : ∃ u, u2.alloc (.cells #[] 99) = u := ⟨_, rfl⟩
   rw [hu3] at HC3
   rw [hg3] at HC3
   go_simp
   refine hK.out _ _ (HSt.out _ (HC3.out.bel.block G HLt.out)) (fun hHeld => ?_)
   clear hK K
   clear hu3 hg3
   refine wpAnyH_ready (rs := [7]) (by kernel_rfl) (by simp) ?_
   refine AllReadyH.cons rfl (fun K hK => ?_) AllReadyH.nil
   obtain ⟨a4, c4, u4, r4, C4, bb4⟩ := HC3.out.appS (HP.out.below HC3.out.bel)
   have HC4 := hide C4
   refine step_appM (by rfl) (.tmp 7) (.tmp 9) (by rfl) (by rfl) (by rfl) r4 ?_
   refine hK.out _ _ (HSt.out _ (HC4.out.bel.block G HLt.out)) (fun hHeld => ?_)
   clear hK K
   clear C4 bb4 r4
   obtain ⟨P9, N9⟩ := HC4.out.past HP.out
   have HZ9 := HZ.out.below HC4.out.bel
   have hs9 := HS3.out
   have stz : (stP (.pointer (some ⟨G + 1, 0, none⟩)) (.agg #[.slice a2 p.vn c2, .slice a4 p.cn c4])).run Tryz.prog u4 = .ok () (u4.setRow (G + 1) (PC ⟨a2, p.vn, c2, a4, p.cn, c4, p.P⟩)) := run_stP (p' := ⟨a2, p.vn, c2, a4, p.cn, c4, p.P⟩) HZ9
   have HE := hide (give_past (w := w) (p := ⟨a2, p.vn, c2, a4, p.cn, c4, p.P⟩) (Q := fun P => P = p.P) HZ9 P9 (N9.mono (by omega)) (HBK.out.trans (HC4.out.bel.mono HBK.out.size)) (by omega) rfl)
   have HG9 := hide ((setRow_other u4 (G + 1) G (PC ⟨a2, p.vn, c2, a4, p.cn, c4, p.P⟩) (by omega)).trans (HC4.out.bel.block G HLt.out))
   clear P9 N9 HZ9 hs9
   refine wTk 8 ⟨some 11, .build 26 #[(0, .tmp 6), (1, .tmp 10)], 26, "ref.go:173", #[⟨3, .data⟩, ⟨7, .data⟩], none⟩ rfl ?_
   refine wpAnyH_ready (rs := [9]) (by kernel_rfl) (by simp) (.cons rfl (fun K hK => ?_) .nil)
   go_simp
   refine hK.out _ _ (HSt.out _ HG9.out) (fun hHeld => ?_)
   clear hK K
   refine wpAnyH_done (by kernel_rfl) ?_ _
   clear hHeld
   go_wp2_with fail
   clear stz
   refine bodyPost_ret (resP rfl rfl HE.out.1) rfl ?_
   exact HE.out.2
  ·obtain ⟨g5, hg5⟩ : ∃ g, u1.heap.size = g := ⟨_, rfl⟩
   have HC5 := hide HC1.out.mkS
   obtain ⟨u5, hu5⟩ : ∃ u, u1.alloc (.cells #[] 99) = u := ⟨_, rfl⟩
   rw [hu5] at HC5
   rw [hg5] at HC5
   go_simp
   refine hK.out _ _ (HSt.out _ (HC5.out.bel.block G HLt.out)) (fun hHeld => ?_)
   clear hK K
   clear hu5 hg5
   refine wpAnyH_ready (rs := [3]) (by kernel_rfl) (by simp) ?_
   refine AllReadyH.cons rfl (fun K hK => ?_) AllReadyH.nil
   obtain ⟨a6, c6, u6, r6, C6, bb6⟩ := HC5.out.appI (HP.out.below HC5.out.bel)
   have HC6 := hide C6
   refine step_appM (by rfl) (.tmp 3) (.tmp 5) (by rfl) (by rfl) (by rfl) r6 ?_
   refine hK.out _ _ (HSt.out _ (HC6.out.bel.block G HLt.out)) (fun hHeld => ?_)
   clear hK K
   clear C6 bb6 r6
   refine wpAnyH_ready (rs := [7]) (by kernel_rfl) (by simp) ?_
   refine AllReadyH.cons rfl (fun K hK => ?_) AllReadyH.nil
   obtain ⟨a7, c7, u7, r7, C7, bb7⟩ := HC6.out.appS (HP.out.below HC6.out.bel)
   have HC7 := hide C7
   refine step_appM (by rfl) (.tmp 7) (.tmp 9) (by rfl) (by rfl) (by rfl) r7 ?_
   refine hK.out _ _ (HSt.out _ (HC7.out.bel.block G HLt.out)) (fun hHeld => ?_)
   clear hK K
   clear C7 bb7 r7
   obtain ⟨P9, N9⟩ := HC7.out.past HP.out
   have HZ9 := HZ.out.below HC7.out.bel
   have hs9 := HS3.out
   have stz : (stP (.pointer (some ⟨G + 1, 0, none⟩)) (.agg #[.slice a6 p.vn c6, .slice a7 p.cn c7])).run Tryz.prog u7 = .ok () (u7.setRow (G + 1) (PC ⟨a6, p.vn, c6, a7, p.cn, c7, p.P⟩)) := run_stP (p' := ⟨a6, p.vn, c6, a7, p.cn, c7, p.P⟩) HZ9
   have HE := hide (give_past (w := w) (p := ⟨a6, p.vn, c6, a7, p.cn, c7, p.P⟩) (Q := fun P => P = p.P) HZ9 P9 (N9.mono (by omega)) (HBK.out.trans (HC7.out.bel.mono HBK.out.size)) (by omega) rfl)
   have HG9 := hide ((setRow_other u7 (G + 1) G (PC ⟨a6, p.vn, c6, a7, p.cn, c7, p.P⟩) (by omega)).trans (HC7.out.bel.block G HLt.out))
   clear P9 N9 HZ9 hs9
   refine wTk 8 ⟨some 11, .build 26 #[(0, .tmp 6), (1, .tmp 10)], 26, "ref.go:173", #[⟨3, .data⟩, ⟨7, .data⟩], none⟩ rfl ?_
   refine wpAnyH_ready (rs := [9]) (by kernel_rfl) (by simp) (.cons rfl (fun K hK => ?_) .nil)
   go_simp
   refine hK.out _ _ (HSt.out _ HG9.out) (fun hHeld => ?_)
   clear hK K
   refine wpAnyH_done (by kernel_rfl) ?_ _
   clear hHeld
   go_wp2_with fail
   clear stz
   refine bodyPost_ret (resP rfl rfl HE.out.1) rfl ?_
   exact HE.out.2
 ·obtain ⟨g8, hg8⟩ : ∃ g, u0.heap.size = g := ⟨_, rfl⟩
  have HC8 := hide HC0.out.mkS
  obtain ⟨u8, hu8⟩ : ∃ u, u0.alloc (.cells #[] 99) = u := ⟨_, rfl⟩
  rw [hu8] at HC8
  rw [hg8] at HC8
  go_simp
  refine hK.out _ _ (HSt.out _ (HC8.out.bel.block G HLt.out)) (fun hHeld => ?_)
  clear hK K
  clear hu8 hg8
  refine wpAnyH_ready (rs := [0]) (by kernel_rfl) (by simp) ?_
  refine AllReadyH.cons rfl (fun K hK => ?_) AllReadyH.nil
  obtain ⟨g9, hg9⟩ : ∃ g, u8.heap.size = g := ⟨_, rfl⟩
  have HC9 := hide HC8.out.mkI
  obtain ⟨u9, hu9⟩ : ∃ u, u8.alloc (.cells #[] 3) = u := ⟨_, rfl⟩
  rw [hu9] at HC9
  rw [hg9] at HC9
  go_simp
  refine hK.out _ _ (HSt.out _ (HC9.out.bel.block G HLt.out)) (fun hHeld => ?_)
  clear hK K
  clear hu9 hg9
  refine wpAnyH_ready (rs := [3]) (by kernel_rfl) (by simp) ?_
  refine AllReadyH.cons rfl (fun K hK => ?_) AllReadyH.nil
  obtain ⟨a10, c10, u10, r10, C10, bb10⟩ := HC9.out.appI (HP.out.below HC9.out.bel)
  have HC10 := hide C10
  refine step_appM (by rfl) (.tmp 3) (.tmp 5) (by rfl) (by rfl) (by rfl) r10 ?_
  refine hK.out _ _ (HSt.out _ (HC10.out.bel.block G HLt.out)) (fun hHeld => ?_)
  clear hK K
  clear C10 bb10 r10
  refine wpAnyH_ready (rs := [7]) (by kernel_rfl) (by simp) ?_
  refine AllReadyH.cons rfl (fun K hK => ?_) AllReadyH.nil
  obtain ⟨a11, c11, u11, r11, C11, bb11⟩ := HC10.out.appS (HP.out.below HC10.out.bel)
  have HC11 := hide C11
  refine step_appM (by rfl) (.tmp 7) (.tmp 9) (by rfl) (by rfl) (by rfl) r11 ?_
  refine hK.out _ _ (HSt.out _ (HC11.out.bel.block G HLt.out)) (fun hHeld => ?_)
  clear hK K
  clear C11 bb11 r11
  obtain ⟨P9, N9⟩ := HC11.out.past HP.out
  have HZ9 := HZ.out.below HC11.out.bel
  have hs9 := HS3.out
  have stz : (stP (.pointer (some ⟨G + 1, 0, none⟩)) (.agg #[.slice a10 p.vn c10, .slice a11 p.cn c11])).run Tryz.prog u11 = .ok () (u11.setRow (G + 1) (PC ⟨a10, p.vn, c10, a11, p.cn, c11, p.P⟩)) := run_stP (p' := ⟨a10, p.vn, c10, a11, p.cn, c11, p.P⟩) HZ9
  have HE := hide (give_past (w := w) (p := ⟨a10, p.vn, c10, a11, p.cn, c11, p.P⟩) (Q := fun P => P = p.P) HZ9 P9 (N9.mono (by omega)) (HBK.out.trans (HC11.out.bel.mono HBK.out.size)) (by omega) rfl)
  have HG9 := hide ((setRow_other u11 (G + 1) G (PC ⟨a10, p.vn, c10, a11, p.cn, c11, p.P⟩) (by omega)).trans (HC11.out.bel.block G HLt.out))
  clear P9 N9 HZ9 hs9
  refine wTk 8 ⟨some 11, .build 26 #[(0, .tmp 6), (1, .tmp 10)], 26, "ref.go:173", #[⟨3, .data⟩, ⟨7, .data⟩], none⟩ rfl ?_
  refine wpAnyH_ready (rs := [9]) (by kernel_rfl) (by simp) (.cons rfl (fun K hK => ?_) .nil)
  go_simp
  refine hK.out _ _ (HSt.out _ HG9.out) (fun hHeld => ?_)
  clear hK K
  refine wpAnyH_done (by kernel_rfl) ?_ _
  clear hHeld
  go_wp2_with fail
  clear stz
  refine bodyPost_ret (resP rfl rfl HE.out.1) rfl ?_
  exact HE.out.2
theorem setCell_row {W : World} {g j : Nat} {v : Value} {cs : Array Value} {T : TypeId} {fr : Nat × Nat} (h : W.heap[g]? = some (.cells cs T fr)) : W.setCell ⟨g, j, none⟩ v = W.setRow g (cs.setIfInBounds j v) := by
 have hlt : g < W.heap.size := (Array.getElem?_eq_some_iff.1 h).1
 have hv : W.heap[g] = .cells cs T fr := (Array.getElem?_eq_some_iff.1 h).2
 unfold World.setCell World.setRow
 simp only
 congr 1
 apply Array.ext
 ·simp
 ·intro i h1 h2
  rw [Array.getElem_modify, Array.getElem_modify]
  split
  ·next e => subst e; simp [hv]
  ·rfl
theorem FaBox.fzC {w : World} {g : Nat} {m : FacV} (h : FaBox w g m) (j : Nat) : w.frozen? ⟨g, j, none⟩ = false := by unfold FaBox at h; simp [World.frozen?, h]
theorem cell_fr {W0 W : World} {g : Nat} {a : Addr} {v : Value} (hc : W0.cell? a = some v) (fr : ∀ k, k < W0.heap.size -> k ≠ g -> W.heap[k]? = W0.heap[k]?) (hg : a.block ≠ g) : W.cell? a = some v := by
 have h := World.block_lt_of_cell? _ _ hc
 unfold World.cell? at hc ⊢
 rw [fr _ h hg]
 exact hc
theorem esrc_fr {W0 W : World} {g : Nat} {m : FacV} {ao : Option Addr} {n cap : Nat} {L : List K.En} (A : FaBox W0 g m) (h : K.ESrc W0 ao n cap L) (fr : ∀ k, k < W0.heap.size -> k ≠ g -> W.heap[k]? = W0.heap[k]?) : K.ESrc W ao n cap L := by
 refine ⟨h.1, h.2.1, fun ad e t ht => ?_, h.2.2.2⟩
 have B := h.2.2.1 ad e t ht
 have hb : (ad.add (t * 4)).block ≠ g := A.ne B.c0 (fun _ _ _ h => by cases h)
 exact ⟨cell_fr B.c0 fr hb, cell_fr B.c1 fr (by rw [block_add]; exact hb), cell_fr B.c2 fr (by rw [block_add]; exact hb), cell_fr B.c3 fr (by rw [block_add]; exact hb)⟩
theorem psrc_fr {W0 W : World} {g : Nat} {m : FacV} {p : Pv} (A : FaBox W0 g m) (h : PSrc W0 p) (fr : ∀ k, k < W0.heap.size -> k ≠ g -> W.heap[k]? = W0.heap[k]?) : PSrc W p := by
 refine ⟨⟨h.vec.1, h.vec.2.1, fun ad e t ht => ?_⟩, ⟨h.cloud.len, h.cloud.nil, fun ad e t ht => ?_, h.cloud.big, h.cloud.cap⟩, h.big⟩
 ·have B := h.vec.2.2 ad e t ht
  exact cell_fr B fr (A.ne B (fun _ _ _ h => by cases h))
 ·have B := h.cloud.cell ad e t ht
  have hb := A.ne B.c0 (fun _ _ _ h => by cases h)
  exact ⟨cell_fr B.c0 fr hb, cell_fr B.c1 fr (by rw [block_add]; exact hb), cell_fr B.c2 fr (by rw [block_add]; exact hb)⟩
def EqC (f g : Fc) : Prop := g.es = f.es /\ g.an = f.an /\ g.p.P = f.p.P /\ plR g.rs = plR f.rs /\ g.rn = f.rn
structure CyW (w W : World) (f : Fc) (E : Option (Option Addr × Nat × List K.En)) (g : Option Nat) (q : Option Pv) : Prop where
 bel : Below w.heap.size w W
 e : ∀ a c L, E = some (a, c, L) -> K.OwnE w.heap.size w.heap.size w W a c L
 b : ∀ x, g = some x -> FaBox W x (mkF fz0) /\ w.heap.size <= x
 ap : ∀ a c L x, E = some (a, c, L) -> g = some x -> (Value.slice a L.length c).ownBlock ≠ some x
 q : ∀ x, q = some x -> PSrc W x /\ PNew w.heap.size x /\ x.P = f.p.P
theorem CyW.start {w W : World} {f : Fc} (h : Below w.heap.size w W) : CyW w W f none none none := ⟨h, fun _ _ _ e => (by cases e), fun _ e => (by cases e), fun _ _ _ _ e => (by cases e), fun _ e => (by cases e)⟩
theorem CyW.mkE {w W : World} {f : Fc} {g : Option Nat} (h : CyW w W f none g none) : CyW w (W.alloc (.cells #[] 36)) f (some (some ⟨W.heap.size, 0, none⟩, 0, [])) g none := by
 refine ⟨h.bel.alloc h.bel.size _, fun a c L e => ?_, fun x e => ⟨(h.b x e).1.below (below_new W _), (h.b x e).2⟩, fun a c L x e1 e2 hk => ?_, fun x e => (by cases e)⟩
 ·cases e; exact K.OwnE.empty h.bel h.bel.size (Nat.le_refl _)
 ·cases e1
  have := (h.b x e2).1.lt
  have : W.heap.size = x := Option.some.inj hk
  omega
theorem CyW.mkG {w W : World} {f : Fc} {E : Option (Option Addr × Nat × List K.En)} {q : Option Pv} (h : CyW w W f E none q) : CyW w (W.alloc (.cells (FaC (mkF fz0)) 29)) f E (some W.heap.size) q := by
 have b1 := below_new W (.cells (FaC (mkF fz0)) 29)
 refine ⟨h.bel.alloc h.bel.size _, fun a c L e => (h.e a c L e).later b1, fun x e => ?_, fun a c L x e1 e2 hk => ?_, fun x e => ⟨(h.q x e).1.below b1, (h.q x e).2⟩⟩
 ·cases e; exact ⟨FaBox_new W _, h.bel.size⟩
 ·cases e2
  have := ((h.e _ _ _ e1).own.lt _ hk).2
  omega
theorem CyW.appE {w W : World} {f : Fc} {g : Option Nat} {a : Option Addr} {c : Nat} (h : CyW w W f (some (a, c, [])) g none) (hf : K.ESrc W f.ao f.an f.ac f.es) :
  ∃ a' c' W', (Builtin.append_ #[22, 22] 22 #[.slice a 0 c, .slice f.ao f.an f.ac]).run Tryz.prog W = .ok (.slice a' f.an c') W' /\ CyW w W' f (some (a', c', f.es)) g none /\ Below w.heap.size w W' := by
 have O := h.e _ _ _ rfl
 obtain ⟨a', c', W', hr, O', hk, hat, hsz⟩ := O.appRun f.ao f.an f.ac f.es hf 0 f.an rfl (Nat.zero_add _) hf.2.2.2.2
 rw [List.nil_append] at O'
 have hl : f.es.length = f.an := hf.1
 refine ⟨a', c', W', hr, ⟨O'.below, fun a2 c2 L2 e => by cases e; exact O', fun x e => ?_, fun a2 c2 L2 x e1 e2 h1 => ?_, fun x e => (by cases e)⟩, O'.below⟩
 ·have X := (h.b x e).1
  exact ⟨(hk x X.lt (fun e3 => h.ap _ _ _ x rfl e e3)).trans X, (h.b x e).2⟩
 ·cases e1
  rw [hl] at h1
  have h4 := (h.b x e2).1.lt
  rcases hat with q | q
  ·exact h.ap _ _ _ x rfl e2 (q.symm.trans h1)
  ·have := Option.some.inj (q.symm.trans h1)
   omega
theorem CyW.setP {w W W' : World} {f : Fc} {g : Option Nat} {E : Option (Option Addr × Nat × List K.En)} {q : Pv} (h : CyW w W f E g none) (hb : Below W.heap.size W W') (hq : PSrc W' q) (hn : PNew W.heap.size q) (he : q.P = f.p.P) : CyW w W' f E g (some q) :=
 ⟨h.bel.trans (hb.mono h.bel.size), fun a c L e => (h.e a c L e).later hb, fun x e => ⟨(h.b x e).1.below hb, (h.b x e).2⟩, h.ap, fun x e => by cases e; exact ⟨hq, hn.mono h.bel.size, he⟩⟩
structure CyL (wk w1 : World) (g : Nat) (f : Fc) (a : Option Addr) (c : Nat) (q : Pv) (k : Nat) (h : Hs) (D : List Rc) (wr : World) : Prop where
 box : FaBox wr g (mkF ⟨a, f.an, c, f.es, q, h.o, h.n, h.c, D⟩)
 own : OwnRc w1.heap.size wk wr h D
 nq : ∀ r ∈ D, PNew w1.heap.size r.p
 num : h.n = k
 eq : plR D = plR (f.rs.take k)
 fr : ∀ x, x < w1.heap.size -> x ≠ g -> wr.heap[x]? = w1.heap[x]?
theorem CyW.done {wk u : World} {f : Fc} {a : Option Addr} {c g : Nat} {q : Pv} {w0 : World} (h : CyW wk u f (some (a, c, f.es)) (some g) (some q)) (hf : K.ESrc w0 f.ao f.an f.ac f.es) :
  CyL wk (u.setRow g (FaC (mkF ⟨a, f.an, c, f.es, q, none, 0, 0, []⟩))) g f a c q 0 hs0 [] (u.setRow g (FaC (mkF ⟨a, f.an, c, f.es, q, none, 0, 0, []⟩))) /\ K.ESrc (u.setRow g (FaC (mkF ⟨a, f.an, c, f.es, q, none, 0, 0, []⟩))) a f.an c f.es /\ PSrc (u.setRow g (FaC (mkF ⟨a, f.an, c, f.es, q, none, 0, 0, []⟩))) q /\ q.P = f.p.P /\ (∀ ad, a = some ad -> wk.heap.size <= ad.block) /\ PNew wk.heap.size q /\ wk.heap.size <= g := by
 obtain ⟨X, hg⟩ := h.b _ rfl
 obtain ⟨q1, q2, q3⟩ := h.q _ rfl
 have O := h.e _ _ _ rfl
 obtain ⟨S1, N1⟩ := O.src hf.2.2.2.1 (by have := hf.1; have := hf.2.2.2.2; omega)
 rw [hf.1] at S1
 have hb := below_setRow (cs := FaC (mkF ⟨a, f.an, c, f.es, q, none, 0, 0, []⟩)) h.bel hg
 exact ⟨⟨X.setRow, ⟨World.ownsRow_nil _ _ _ _, fun p h => (by cases h), hb, hb.size, Nat.le_refl _⟩, fun r h => (by cases h), rfl, rfl, fun _ _ _ => rfl⟩, esrc_offF X S1 _, psrc_offF X q1 _, q3, N1, q2, hg⟩
theorem CyL.later {wk w1 wr W : World} {g : Nat} {f : Fc} {a : Option Addr} {c : Nat} {q : Pv} {k : Nat} {h : Hs} {D : List Rc} (I : CyL wk w1 g f a c q k h D wr) (hb : Below wr.heap.size wr W) : CyL wk w1 g f a c q k h D W :=
 ⟨I.box.below hb, I.own.later hb, I.nq, I.num, I.eq, fun x h1 h2 => (hb.block x (Nat.lt_of_lt_of_le h1 I.own.hB.2)).trans (I.fr x h1 h2)⟩
theorem CyL.next {wk w1 wr W2 : World} {g : Nat} {f : Fc} {a : Option Addr} {c : Nat} {q : Pv} {k : Nat} {h h2 : Hs} {D : List Rc} {x : Rc} (I : CyL wk w1 g f a c q k h D wr) (hg : wk.heap.size <= g) (hg1 : g < w1.heap.size) (O2 : OwnRc w1.heap.size wk W2 h2 (D ++ [x])) (hk : ∀ q, q < wr.heap.size -> (HsV h).ownBlock ≠ some q -> W2.heap[q]? = wr.heap[q]?)
  (hx : PNew w1.heap.size x.p) (hkl : k < f.rs.length) (he : (x.s, x.p.P) = ((f.rs.getD k rc0).s, (f.rs.getD k rc0).p.P)) (hn : h2.n = k + 1) :
  CyL wk w1 g f a c q (k + 1) h2 (D ++ [x]) (W2.setCell ⟨g, 3, none⟩ (.slice h2.o h2.n h2.c)) := by
 have X2 : FaBox W2 g (mkF ⟨a, f.an, c, f.es, q, h.o, h.n, h.c, D⟩) := (hk g I.box.lt (fun e => by have := (I.own.own.lt _ e).1; omega)).trans I.box
 have e : W2.setCell ⟨g, 3, none⟩ (.slice h2.o h2.n h2.c) = W2.setRow g (FaC (mkF ⟨a, f.an, c, f.es, q, h2.o, h2.n, h2.c, D ++ [x]⟩)) := setCell_row X2
 have hnq : ∀ r ∈ D ++ [x], PNew w1.heap.size r.p := mem_snoc I.nq hx
 rw [e]
 refine ⟨X2.setRow, O2.setOther g _ hg (fun e => by have := (O2.own.lt _ e).1; omega) (fun r hr => PFar.new (hnq r hr) hg1), hnq, hn, ?_, fun y h1 h3 => ?_⟩
 ·rw [plR_snoc, I.eq, plR_take _ _ hkl, he]
 ·exact (setRow_other _ _ _ _ h3).trans ((hk y (Nat.lt_of_lt_of_le h1 I.own.hB.2) (fun e => by have := (I.own.own.lt _ e).1; omega)).trans (I.fr y h1 h3))
def bsRc (a : Array (Nat × Value)) : Sem Value := Instr.buildSlice 27 1 a
theorem bsRc_eq (a : Array (Nat × Value)) : Instr.buildSlice 27 1 a = bsRc a := rfl
theorem run_bsRc (r : Rc) (w : World) : (bsRc #[(0, .agg (ReC (mkR r)))]).run Tryz.prog w = .ok (.slice (some ⟨w.heap.size, 0, none⟩) 1 1) (w.alloc (.cells (ReC (mkR r)) 62)) := by kernel_rfl
theorem run_bldFc (a : Option Addr) (n c : Nat) (p : Pv) (w : World) : (bldF #[(0, .slice a n c), (1, .agg (PC p))]).run Tryz.prog w = .ok (.agg (FaC (mkF ⟨a, n, c, [], p, none, 0, 0, []⟩))) w := by kernel_rfl
attribute [local go_sem ↓] ldFa_eq stFa_eq bldF_eq run_bldFc ldRe_eq stRe_eq bldR_eq run_bldRp bsRc_eq run_bsRc
attribute [local go_sem] cells_FaV FaC_size zero_FaZ cells_ReV ReC_size
theorem copyF_any (f : Fc) (w : World) (hF : FcOk w f) : Calls Tryz.prog 13 #[FaV (mkF f)] w fun e w' => FcS w w' e (EqC f) := by
 have b2 := below_new w (.cells (FaC (mkF f)) 29)
 have X2 := FaBox_new w (mkF f)
 obtain ⟨w2, hw2⟩ : ∃ w2, w.alloc (.cells (FaC (mkF f)) 29) = w2 := ⟨_, rfl⟩
 have hs2 : w2.heap.size = w.heap.size + 1 := by rw [<- hw2]; simp
 rw [hw2] at b2 X2
 have b3 := below_new w2 (.cells (FaC (mkF fz0)) 29)
 have X3 := FaBox_new w2 (mkF fz0)
 obtain ⟨wk, hwk⟩ : ∃ wk, w2.alloc (.cells (FaC (mkF fz0)) 29) = wk := ⟨_, rfl⟩
 have hs3 : wk.heap.size = w.heap.size + 2 := by rw [<- hwk]; simp [hs2]
 rw [hwk] at b3 X3
 rw [hs2] at X3
 obtain ⟨G, hG0⟩ : ∃ G, w.heap.size = G := ⟨_, rfl⟩
 have HS3 : Hid (wk.heap.size = G + 2 /\ w.heap.size = G) := ⟨by rw [hs3, hG0], hG0⟩
 rw [hG0] at X3 X2
 have HX := hide (X2.below b3)
 have HZ := hide X3
 have HBK := hide (b2.trans (b3.mono b2.size))
 have HF := hide (hF.below HBK.out)
 have HC0 := hide (CyW.start (f := f) (below_drew1 wk))
 have HSt : Hid (∀ W, Below wk.heap.size wk W -> W.cell? ⟨G, 0, none⟩ = some (.slice f.ao f.an f.ac) /\ (ldP (.pointer (some ⟨G, 1, none⟩))).run Tryz.prog W = .ok (PV f.p) W) := fun W hW => ⟨(HX.out.below hW).c0, run_ldP (HX.out.below hW).past⟩
 clear hF b2 b3 X2 X3 hs3
 go_enter Tryz.func13, Tryz.ntmps13
 go_upto_region 1 with fail
 clear hw2 hwk hG0 hs2
 go_cut [3] from 5 to 12 (fun v W => ∃ (a : Option Addr) (c : Nat) (q : Pv) (g : Nat), v = .pointer (some ⟨g, 0, none⟩) /\ Hid (CyL wk W g f a c q 0 hs0 [] W /\ K.ESrc W a f.an c f.es /\ PSrc W q /\ q.P = f.p.P /\ (∀ ad, a = some ad -> wk.heap.size <= ad.block) /\ PNew wk.heap.size q /\ wk.heap.size <= g))
 case first =>
  skip
  refine wp_region_held_drew (S := fun W => W.cell? ⟨G, 0, none⟩ = some (.slice f.ao f.an f.ac) /\ (ldP (.pointer (some ⟨G, 1, none⟩))).run Tryz.prog W = .ok (PV f.p) W) (by kernel_rfl) (HSt.out _ (below_drew1 wk)) (fun hHeld => ?_)
  refine wTk 1 ⟨some 6, .fieldAddr 29 (.tmp 1) 0, 0, "ref.go:164", #[], none⟩ rfl ?_
  refine wTk 2 ⟨some 7, .load 22 (.tmp 6), 22, "ref.go:164", #[⟨1, .data⟩], none⟩ rfl ?_
  refine wTk 4 ⟨some 9, .fieldAddr 29 (.tmp 1) 1, 0, "ref.go:164", #[], none⟩ rfl ?_
  refine wTk 5 ⟨some 10, .load 26 (.tmp 9), 26, "ref.go:164", #[⟨4, .data⟩], none⟩ rfl ?_
  obtain ⟨u0, hu0⟩ : ∃ u, wk.drew = u := ⟨_, rfl⟩
  rw [hu0] at HC0
  rw [hu0]
  clear hu0
  refine wpAnyH_ready (rs := [0, 8]) (by kernel_rfl) (by simp) ?_
  refine AllReadyH.cons rfl (fun K hK => ?_) (AllReadyH.cons rfl (fun K hK => ?_) AllReadyH.nil)
  ·obtain ⟨g12, hg12⟩ : ∃ g, u0.heap.size = g := ⟨_, rfl⟩
   have HC12 := hide HC0.out.mkE
   obtain ⟨u12, hu12⟩ : ∃ u, u0.alloc (.cells #[] 36) = u := ⟨_, rfl⟩
   rw [hu12] at HC12
   rw [hg12] at HC12
   go_simp
   refine hK.out _ _ (HSt.out _ HC12.out.bel) (fun hHeld => ?_)
   clear hK K
   clear hu12 hg12
   refine wpAnyH_ready (rs := [3, 8]) (by kernel_rfl) (by simp) ?_
   refine AllReadyH.cons rfl (fun K hK => ?_) (AllReadyH.cons rfl (fun K hK => ?_) AllReadyH.nil)
   ·obtain ⟨a13, c13, u13, r13, C13, bb13⟩ := HC12.out.appE (HF.out.below HC12.out.bel).es
    have HC13 := hide C13
    refine step_appM (by rfl) (.tmp 5) (.tmp 7) (by rfl) (by rfl) (by rfl) r13 ?_
    refine hK.out _ _ (HSt.out _ HC13.out.bel) (fun hHeld => ?_)
    clear hK K
    clear C13 bb13 r13
    refine wpAnyH_ready (rs := [6, 8]) (by kernel_rfl) (by simp) ?_
    refine AllReadyH.cons rfl (fun K hK => ?_) (AllReadyH.cons rfl (fun K hK => ?_) AllReadyH.nil)
    ·go_simp
     go_wp2_with fail
     refine (copyPast_any f.p _ (HF.out.below HC13.out.bel).p).mono ?_
     rintro e u14 ⟨q14, rfl, p14, n14, b14, e14⟩
     have HC14 := hide (HC13.out.setP b14 p14 n14 e14)
     refine hK.out _ _ (HSt.out _ HC14.out.bel) (fun hHeld => ?_)
     clear hK K
     clear p14 n14 b14 e14
     refine wTk 7 ⟨some 12, .build 29 #[(0, .tmp 8), (1, .tmp 11)], 29, "ref.go:164", #[⟨3, .data⟩, ⟨6, .data⟩], none⟩ rfl ?_
     refine wpAnyH_ready (rs := [8]) (by kernel_rfl) (by simp) ?_
     refine AllReadyH.cons rfl (fun K hK => ?_) AllReadyH.nil
     obtain ⟨g15, hg15⟩ : ∃ g, u14.heap.size = g := ⟨_, rfl⟩
     have HC15 := hide HC14.out.mkG
     obtain ⟨u15, hu15⟩ : ∃ u, u14.alloc (.cells (FaC (mkF fz0)) 29) = u := ⟨_, rfl⟩
     rw [hu15] at HC15
     rw [hg15] at HC15
     go_simp
     refine hK.out _ _ (HSt.out _ HC15.out.bel) (fun hHeld => ?_)
     clear hK K
     clear hu15 hg15
     have hX9 := (HC15.out.b _ rfl).1
     have stz : (stFa (.pointer (some ⟨g15, 0, none⟩)) (.agg (FaC (mkF ⟨a13, f.an, c13, [], q14, none, 0, 0, []⟩)))).run Tryz.prog u15 = .ok () (u15.setRow g15 (FaC (mkF ⟨a13, f.an, c13, f.es, q14, none, 0, 0, []⟩))) := run_stFa (m' := mkF ⟨a13, f.an, c13, f.es, q14, none, 0, 0, []⟩) hX9
     have HD9 := hide (HC15.out.done HF.out.es)
     clear hX9
     refine wpAnyH_ready (rs := [9]) (by kernel_rfl) (by simp) (.cons rfl (fun K hK => ?_) .nil)
     go_simp
     refine hK.out _ _ (HSt.out _ HD9.out.1.own.below) (fun hHeld => ?_)
     clear hK K
     refine wpAnyH_done (by kernel_rfl) ?_ _
     clear hHeld
     go_wp2_with fail
     go_meet
     case rel => exact ⟨a13, c13, q14, g15, rfl, HD9.out⟩
    ·obtain ⟨g16, hg16⟩ : ∃ g, u13.heap.size = g := ⟨_, rfl⟩
     have HC16 := hide HC13.out.mkG
     obtain ⟨u16, hu16⟩ : ∃ u, u13.alloc (.cells (FaC (mkF fz0)) 29) = u := ⟨_, rfl⟩
     rw [hu16] at HC16
     rw [hg16] at HC16
     go_simp
     refine hK.out _ _ (HSt.out _ HC16.out.bel) (fun hHeld => ?_)
     clear hK K
     clear hu16 hg16
     refine wpAnyH_ready (rs := [6]) (by kernel_rfl) (by simp) ?_
     refine AllReadyH.cons rfl (fun K hK => ?_) AllReadyH.nil
     go_simp
     go_wp2_with fail
     refine (copyPast_any f.p _ (HF.out.below HC16.out.bel).p).mono ?_
     rintro e u17 ⟨q17, rfl, p17, n17, b17, e17⟩
     have HC17 := hide (HC16.out.setP b17 p17 n17 e17)
     refine hK.out _ _ (HSt.out _ HC17.out.bel) (fun hHeld => ?_)
     clear hK K
     clear p17 n17 b17 e17
     refine wTk 7 ⟨some 12, .build 29 #[(0, .tmp 8), (1, .tmp 11)], 29, "ref.go:164", #[⟨3, .data⟩, ⟨6, .data⟩], none⟩ rfl ?_
     have hX9 := (HC17.out.b _ rfl).1
     have stz : (stFa (.pointer (some ⟨g16, 0, none⟩)) (.agg (FaC (mkF ⟨a13, f.an, c13, [], q17, none, 0, 0, []⟩)))).run Tryz.prog u17 = .ok () (u17.setRow g16 (FaC (mkF ⟨a13, f.an, c13, f.es, q17, none, 0, 0, []⟩))) := run_stFa (m' := mkF ⟨a13, f.an, c13, f.es, q17, none, 0, 0, []⟩) hX9
     have HD9 := hide (HC17.out.done HF.out.es)
     clear hX9
     refine wpAnyH_ready (rs := [9]) (by kernel_rfl) (by simp) (.cons rfl (fun K hK => ?_) .nil)
     go_simp
     refine hK.out _ _ (HSt.out _ HD9.out.1.own.below) (fun hHeld => ?_)
     clear hK K
     refine wpAnyH_done (by kernel_rfl) ?_ _
     clear hHeld
     go_wp2_with fail
     go_meet
     case rel => exact ⟨a13, c13, q17, g16, rfl, HD9.out⟩
   ·obtain ⟨g18, hg18⟩ : ∃ g, u12.heap.size = g := ⟨_, rfl⟩
    have HC18 := hide HC12.out.mkG
    obtain ⟨u18, hu18⟩ : ∃ u, u12.alloc (.cells (FaC (mkF fz0)) 29) = u := ⟨_, rfl⟩
    rw [hu18] at HC18
    rw [hg18] at HC18
    go_simp
    refine hK.out _ _ (HSt.out _ HC18.out.bel) (fun hHeld => ?_)
    clear hK K
    clear hu18 hg18
    refine wpAnyH_ready (rs := [3]) (by kernel_rfl) (by simp) ?_
    refine AllReadyH.cons rfl (fun K hK => ?_) AllReadyH.nil
    obtain ⟨a19, c19, u19, r19, C19, bb19⟩ := HC18.out.appE (HF.out.below HC18.out.bel).es
    have HC19 := hide C19
    refine step_appM (by rfl) (.tmp 5) (.tmp 7) (by rfl) (by rfl) (by rfl) r19 ?_
    refine hK.out _ _ (HSt.out _ HC19.out.bel) (fun hHeld => ?_)
    clear hK K
    clear C19 bb19 r19
    refine wpAnyH_ready (rs := [6]) (by kernel_rfl) (by simp) ?_
    refine AllReadyH.cons rfl (fun K hK => ?_) AllReadyH.nil
    go_simp
    go_wp2_with fail
    refine (copyPast_any f.p _ (HF.out.below HC19.out.bel).p).mono ?_
    rintro e u20 ⟨q20, rfl, p20, n20, b20, e20⟩
    have HC20 := hide (HC19.out.setP b20 p20 n20 e20)
    refine hK.out _ _ (HSt.out _ HC20.out.bel) (fun hHeld => ?_)
    clear hK K
    clear p20 n20 b20 e20
    refine wTk 7 ⟨some 12, .build 29 #[(0, .tmp 8), (1, .tmp 11)], 29, "ref.go:164", #[⟨3, .data⟩, ⟨6, .data⟩], none⟩ rfl ?_
    have hX9 := (HC20.out.b _ rfl).1
    have stz : (stFa (.pointer (some ⟨g18, 0, none⟩)) (.agg (FaC (mkF ⟨a19, f.an, c19, [], q20, none, 0, 0, []⟩)))).run Tryz.prog u20 = .ok () (u20.setRow g18 (FaC (mkF ⟨a19, f.an, c19, f.es, q20, none, 0, 0, []⟩))) := run_stFa (m' := mkF ⟨a19, f.an, c19, f.es, q20, none, 0, 0, []⟩) hX9
    have HD9 := hide (HC20.out.done HF.out.es)
    clear hX9
    refine wpAnyH_ready (rs := [9]) (by kernel_rfl) (by simp) (.cons rfl (fun K hK => ?_) .nil)
    go_simp
    refine hK.out _ _ (HSt.out _ HD9.out.1.own.below) (fun hHeld => ?_)
    clear hK K
    refine wpAnyH_done (by kernel_rfl) ?_ _
    clear hHeld
    go_wp2_with fail
    go_meet
    case rel => exact ⟨a19, c19, q20, g18, rfl, HD9.out⟩
  ·obtain ⟨g21, hg21⟩ : ∃ g, u0.heap.size = g := ⟨_, rfl⟩
   have HC21 := hide HC0.out.mkG
   obtain ⟨u21, hu21⟩ : ∃ u, u0.alloc (.cells (FaC (mkF fz0)) 29) = u := ⟨_, rfl⟩
   rw [hu21] at HC21
   rw [hg21] at HC21
   go_simp
   refine hK.out _ _ (HSt.out _ HC21.out.bel) (fun hHeld => ?_)
   clear hK K
   clear hu21 hg21
   refine wpAnyH_ready (rs := [0]) (by kernel_rfl) (by simp) ?_
   refine AllReadyH.cons rfl (fun K hK => ?_) AllReadyH.nil
   obtain ⟨g22, hg22⟩ : ∃ g, u21.heap.size = g := ⟨_, rfl⟩
   have HC22 := hide HC21.out.mkE
   obtain ⟨u22, hu22⟩ : ∃ u, u21.alloc (.cells #[] 36) = u := ⟨_, rfl⟩
   rw [hu22] at HC22
   rw [hg22] at HC22
   go_simp
   refine hK.out _ _ (HSt.out _ HC22.out.bel) (fun hHeld => ?_)
   clear hK K
   clear hu22 hg22
   refine wpAnyH_ready (rs := [3]) (by kernel_rfl) (by simp) ?_
   refine AllReadyH.cons rfl (fun K hK => ?_) AllReadyH.nil
   obtain ⟨a23, c23, u23, r23, C23, bb23⟩ := HC22.out.appE (HF.out.below HC22.out.bel).es
   have HC23 := hide C23
   refine step_appM (by rfl) (.tmp 5) (.tmp 7) (by rfl) (by rfl) (by rfl) r23 ?_
   refine hK.out _ _ (HSt.out _ HC23.out.bel) (fun hHeld => ?_)
   clear hK K
   clear C23 bb23 r23
   refine wpAnyH_ready (rs := [6]) (by kernel_rfl) (by simp) ?_
   refine AllReadyH.cons rfl (fun K hK => ?_) AllReadyH.nil
   go_simp
   go_wp2_with fail
   refine (copyPast_any f.p _ (HF.out.below HC23.out.bel).p).mono ?_
   rintro e u24 ⟨q24, rfl, p24, n24, b24, e24⟩
   have HC24 := hide (HC23.out.setP b24 p24 n24 e24)
   refine hK.out _ _ (HSt.out _ HC24.out.bel) (fun hHeld => ?_)
   clear hK K
   clear p24 n24 b24 e24
   refine wTk 7 ⟨some 12, .build 29 #[(0, .tmp 8), (1, .tmp 11)], 29, "ref.go:164", #[⟨3, .data⟩, ⟨6, .data⟩], none⟩ rfl ?_
   have hX9 := (HC24.out.b _ rfl).1
   have stz : (stFa (.pointer (some ⟨g21, 0, none⟩)) (.agg (FaC (mkF ⟨a23, f.an, c23, [], q24, none, 0, 0, []⟩)))).run Tryz.prog u24 = .ok () (u24.setRow g21 (FaC (mkF ⟨a23, f.an, c23, f.es, q24, none, 0, 0, []⟩))) := run_stFa (m' := mkF ⟨a23, f.an, c23, f.es, q24, none, 0, 0, []⟩) hX9
   have HD9 := hide (HC24.out.done HF.out.es)
   clear hX9
   refine wpAnyH_ready (rs := [9]) (by kernel_rfl) (by simp) (.cons rfl (fun K hK => ?_) .nil)
   go_simp
   refine hK.out _ _ (HSt.out _ HD9.out.1.own.below) (fun hHeld => ?_)
   clear hK K
   refine wpAnyH_done (by kernel_rfl) ?_ _
   clear hHeld
   go_wp2_with fail
   go_meet
   case rel => exact ⟨a23, c23, q24, g21, rfl, HD9.out⟩
 case rest =>
  obtain ⟨a, c, q, g, rfl, HK⟩ := hcut
  rename World => w1
  have HKb := hide HK.out.1.own.below
  have HG1 : Hid (g < w1.heap.size /\ wk.heap.size <= g) := ⟨HK.out.1.box.lt, HK.out.2.2.2.2.2.2⟩
  go_wp2_with fail
  go_loopw [4] (fun i wr => ∃ (k : Nat) (h : Hs) (D : List Rc), k <= f.rn /\ i = .int .i64 (k : Int) /\ Hid (CyL wk w1 g f a c q k h D wr)) (fun i _ => f.rn - (intOf i).toNat)
  case atStart => exact ⟨0, hs0, [], Nat.zero_le _, rfl, HK.out.1⟩
  case round =>
   obtain ⟨k, h, D, hk, rfl, HI⟩ := hrel
   rename World => wr
   have c3 := (HX.out.below HI.out.own.below).cs.2
   have hbig := HF.out.rs.big
   by_cases hlt : k < f.rn
   ·have hlti : (k : Int) < (f.rn : Int) := by omega
    obtain ⟨rd, hro, A0⟩ := (HF.out.below HI.out.own.below).rs.at k hlt
    have hOk := (HF.out.below HI.out.own.below).rs.okAt k hlt
    obtain ⟨r, Hr⟩ : ∃ r, Hid (f.rs.getD k rc0 = r) := ⟨_, rfl⟩
    rw [Hr.out] at A0 hOk
    obtain ⟨b1, o1, rfl⟩ : ∃ b1 o1, rd = ⟨b1, o1, none⟩ := by
     have h := (HF.out.below HI.out.own.below).rs
     rw [hro] at h
     exact h.spot (by omega)
    rw [Addr.add_lit] at A0
    rw [hro] at c3
    have Hro := hide hro
    have HOk := hide hOk
    have Hlt := hide hlt
    have HSt5 : Hid (∀ W, Below wk.heap.size wk W -> W.cell? ⟨G, 3, none⟩ = some (.slice (some ⟨b1, o1, none⟩) f.rn f.rc) /\ W.cell? ⟨b1, o1 + k * 3, none⟩ = some (.string r.s) /\ (ldP (.pointer (some ⟨b1, o1 + k * 3 + 1, none⟩))).run Tryz.prog W = .ok (PV r.p) W) := fun W hW => by
     have h2 := (HF.out.below hW).rs.at_ _ Hro.out k Hlt.out
     rw [Hr.out, Addr.add_lit] at h2
     refine ⟨?_, h2.flat.1, run_ldP h2.flat.2⟩
     rw [<- Hro.out]; exact (HX.out.below hW).cs.2
    clear A0 hOk hlt hro
    have HI0 := hide (HI.out.later (below_drew1 wr))
    go_upto_region 5 with fail
    clear c3
    have HPr : Hid (∀ W, Below wk.heap.size wk W -> PSrc W r.p) := fun W hW => by
     have h := (HF.out.below hW).rs.okAt k Hlt.out
     rw [Hr.out] at h
     exact h.1
    refine wp_region_held_drew (S := fun W => W.cell? ⟨G, 3, none⟩ = some (.slice (some ⟨b1, o1, none⟩) f.rn f.rc) /\ W.cell? ⟨b1, o1 + k * 3, none⟩ = some (.string r.s) /\ (ldP (.pointer (some ⟨b1, o1 + k * 3 + 1, none⟩))).run Tryz.prog W = .ok (PV r.p) W) (by kernel_rfl) (HSt5.out _ HI0.out.own.below) (fun hHeld => ?_)
    refine wTk 0 ⟨some 20, .fieldAddr 29 (.tmp 3) 2, 0, "ref.go:166", #[], none⟩ rfl ?_
    refine wTk 2 ⟨some 22, .fieldAddr 29 (.tmp 1) 2, 0, "ref.go:166", #[], none⟩ rfl ?_
    refine wTk 3 ⟨some 23, .load 27 (.tmp 22), 27, "ref.go:166", #[⟨2, .data⟩], none⟩ rfl ?_
    refine wTk 4 ⟨some 24, .move (.tmp 4), 3, "ref.go:166", #[], none⟩ rfl ?_
    refine wTk 5 ⟨some 25, .indexAddr 27 (.tmp 23) (.tmp 24), 0, "ref.go:166", #[⟨3, .data⟩, ⟨4, .data⟩], none⟩ rfl ?_
    refine wTk 6 ⟨some 26, .fieldAddr 62 (.tmp 25) 0, 0, "ref.go:166", #[⟨5, .data⟩], none⟩ rfl ?_
    refine wTk 7 ⟨some 27, .load 9 (.tmp 26), 9, "ref.go:166", #[⟨6, .data⟩], none⟩ rfl ?_
    refine wTk 8 ⟨some 28, .fieldAddr 29 (.tmp 1) 2, 0, "ref.go:166", #[], none⟩ rfl ?_
    refine wTk 9 ⟨some 29, .load 27 (.tmp 28), 27, "ref.go:166", #[⟨8, .data⟩], none⟩ rfl ?_
    refine wTk 10 ⟨some 30, .move (.tmp 4), 3, "ref.go:166", #[], none⟩ rfl ?_
    refine wTk 11 ⟨some 31, .indexAddr 27 (.tmp 29) (.tmp 30), 0, "ref.go:166", #[⟨9, .data⟩, ⟨10, .data⟩], none⟩ rfl ?_
    refine wTk 12 ⟨some 32, .fieldAddr 62 (.tmp 31) 1, 0, "ref.go:166", #[⟨11, .data⟩], none⟩ rfl ?_
    refine wTk 13 ⟨some 33, .load 26 (.tmp 32), 26, "ref.go:166", #[⟨12, .data⟩], none⟩ rfl ?_
    obtain ⟨u0, hu0⟩ : ∃ u, wr.drew = u := ⟨_, rfl⟩
    rw [hu0] at HI0
    rw [hu0]
    clear hu0
    refine wpAnyH_ready (rs := [1, 14]) (by kernel_rfl) (by simp) ?_
    refine AllReadyH.cons rfl (fun K hK => ?_) (AllReadyH.cons rfl (fun K hK => ?_) AllReadyH.nil)
    ·have d25 := HI0.out.box.cs.2
     go_simp
     refine hK.out _ _ (HSt5.out _ HI0.out.own.below) (fun hHeld => ?_)
     clear hK K
     clear d25
     refine wpAnyH_ready (rs := [14]) (by kernel_rfl) (by simp) ?_
     refine AllReadyH.cons rfl (fun K hK => ?_) AllReadyH.nil
     go_simp
     go_wp2_with fail
     refine (copyPast_any r.p _ (HPr.out _ HI0.out.own.below)).mono ?_
     rintro e u26 ⟨q26, rfl, p26, n26, b26, e26⟩
     have HI26 := hide (HI0.out.later b26)
     have HQ26 : Hid (PSrc u26 q26 /\ PNew w1.heap.size q26 /\ q26.P = r.p.P /\ FarH h q26) := ⟨p26, n26.mono HI0.out.own.hB.2, e26, fun x hx => PFar.new n26 (HI0.out.own.own.lt x hx).2⟩
     refine hK.out _ _ (HSt5.out _ HI26.out.own.below) (fun hHeld => ?_)
     clear hK K
     clear p26 n26 b26 e26
     refine wTk 15 ⟨some 35, .build 62 #[(0, .tmp 27), (1, .tmp 34)], 62, "ref.go:166", #[⟨7, .data⟩, ⟨14, .data⟩], none⟩ rfl ?_
     refine wpAnyH_ready (rs := [16]) (by kernel_rfl) (by simp) ?_
     refine AllReadyH.cons rfl (fun K hK => ?_) AllReadyH.nil
     go_simp
     refine hK.out _ _ (HSt5.out _ (HI26.out.own.below.trans ((below_new u26 (.cells (ReC (mkR ⟨r.s, q26⟩)) 62)).mono HI26.out.own.below.size))) (fun hHeld => ?_)
     clear hK K
     refine wpAnyH_ready (rs := [17]) (by kernel_rfl) (by simp) ?_
     refine AllReadyH.cons rfl (fun K hK => ?_) AllReadyH.nil
     obtain ⟨g8, c8, u8, r8, O8, k8, -, -⟩ := HI26.out.own.appAt ⟨r.s, q26⟩ ⟨HQ26.out.1, HOk.out.2⟩ HQ26.out.2.2.2 (by rw [HI26.out.num]; omega)
     have HN := hide (HI26.out.next (h2 := ⟨some ⟨g8, 0, none⟩, h.n + 1, c8⟩) HG1.out.2 HG1.out.1 O8 k8 HQ26.out.2.1 (by rw [HF.out.rs.len]; exact Hlt.out) (by rw [Hr.out, HQ26.out.2.2.1]) (by show h.n + 1 = k + 1; rw [HI26.out.num]))
     have hc8 : (u8.cell? ⟨g, 3, none⟩) = some (.slice h.o h.n h.c) := FaBox.c3 (m := mkF ⟨a, f.an, c, f.es, q, h.o, h.n, h.c, D⟩) ((k8 g HI26.out.box.lt (fun e => by have := (HI26.out.own.own.lt _ e).1; have := HG1.out.1; omega)).trans HI26.out.box)
     have hf8 : u8.frozen? ⟨g, 3, none⟩ = false := FaBox.fzC (m := mkF ⟨a, f.an, c, f.es, q, h.o, h.n, h.c, D⟩) ((k8 g HI26.out.box.lt (fun e => by have := (HI26.out.own.own.lt _ e).1; have := HG1.out.1; omega)).trans HI26.out.box) 3
     have HB8 := hide O8.below
     refine step_appM (by rfl) (.tmp 21) (.tmp 36) (by rfl) (by rfl) (by rfl) r8 ?_
     refine hK.out _ _ (HSt5.out _ HB8.out) (fun hHeld => ?_)
     clear hK K
     clear r8 O8 k8
     refine wTk 18 ⟨some 38, .fieldAddr 29 (.tmp 3) 2, 0, "ref.go:166", #[⟨0, .phase⟩, ⟨1, .phase⟩, ⟨2, .phase⟩, ⟨3, .phase⟩, ⟨4, .phase⟩, ⟨5, .phase⟩, ⟨6, .phase⟩, ⟨7, .phase⟩, ⟨8, .phase⟩, ⟨9, .phase⟩, ⟨10, .phase⟩, ⟨11, .phase⟩, ⟨12, .phase⟩, ⟨13, .phase⟩, ⟨14, .phase⟩, ⟨15, .phase⟩, ⟨16, .phase⟩, ⟨17, .phase⟩], none⟩ rfl ?_
     refine wpAnyH_ready (rs := [19]) (by kernel_rfl) (by simp) (.cons rfl (fun K hK => ?_) .nil)
     go_simp
     refine hK.out _ _ (HSt5.out _ HN.out.own.below) (fun hHeld => ?_)
     clear hK K
     refine wpAnyH_done (by kernel_rfl) ?_ _
     clear hHeld
     clear hc8 hf8
     go_wp2_with fail
     go_roundw
     case rel => exact ⟨k + 1, _, _, Hlt.out, by simp, HN.out⟩
     case measure => simp [intOf]; have := Hlt.out; omega
    ·go_simp
     go_wp2_with fail
     refine (copyPast_any r.p _ (HPr.out _ HI0.out.own.below)).mono ?_
     rintro e u29 ⟨q29, rfl, p29, n29, b29, e29⟩
     have HI29 := hide (HI0.out.later b29)
     have HQ29 : Hid (PSrc u29 q29 /\ PNew w1.heap.size q29 /\ q29.P = r.p.P /\ FarH h q29) := ⟨p29, n29.mono HI0.out.own.hB.2, e29, fun x hx => PFar.new n29 (HI0.out.own.own.lt x hx).2⟩
     refine hK.out _ _ (HSt5.out _ HI29.out.own.below) (fun hHeld => ?_)
     clear hK K
     clear p29 n29 b29 e29
     refine wTk 15 ⟨some 35, .build 62 #[(0, .tmp 27), (1, .tmp 34)], 62, "ref.go:166", #[⟨7, .data⟩, ⟨14, .data⟩], none⟩ rfl ?_
     refine wpAnyH_ready (rs := [1, 16]) (by kernel_rfl) (by simp) ?_
     refine AllReadyH.cons rfl (fun K hK => ?_) (AllReadyH.cons rfl (fun K hK => ?_) AllReadyH.nil)
     ·have d30 := HI29.out.box.cs.2
      go_simp
      refine hK.out _ _ (HSt5.out _ HI29.out.own.below) (fun hHeld => ?_)
      clear hK K
      clear d30
      refine wpAnyH_ready (rs := [16]) (by kernel_rfl) (by simp) ?_
      refine AllReadyH.cons rfl (fun K hK => ?_) AllReadyH.nil
      go_simp
      refine hK.out _ _ (HSt5.out _ (HI29.out.own.below.trans ((below_new u29 (.cells (ReC (mkR ⟨r.s, q29⟩)) 62)).mono HI29.out.own.below.size))) (fun hHeld => ?_)
      clear hK K
      refine wpAnyH_ready (rs := [17]) (by kernel_rfl) (by simp) ?_
      refine AllReadyH.cons rfl (fun K hK => ?_) AllReadyH.nil
      obtain ⟨g8, c8, u8, r8, O8, k8, -, -⟩ := HI29.out.own.appAt ⟨r.s, q29⟩ ⟨HQ29.out.1, HOk.out.2⟩ HQ29.out.2.2.2 (by rw [HI29.out.num]; omega)
      have HN := hide (HI29.out.next (h2 := ⟨some ⟨g8, 0, none⟩, h.n + 1, c8⟩) HG1.out.2 HG1.out.1 O8 k8 HQ29.out.2.1 (by rw [HF.out.rs.len]; exact Hlt.out) (by rw [Hr.out, HQ29.out.2.2.1]) (by show h.n + 1 = k + 1; rw [HI29.out.num]))
      have hc8 : (u8.cell? ⟨g, 3, none⟩) = some (.slice h.o h.n h.c) := FaBox.c3 (m := mkF ⟨a, f.an, c, f.es, q, h.o, h.n, h.c, D⟩) ((k8 g HI29.out.box.lt (fun e => by have := (HI29.out.own.own.lt _ e).1; have := HG1.out.1; omega)).trans HI29.out.box)
      have hf8 : u8.frozen? ⟨g, 3, none⟩ = false := FaBox.fzC (m := mkF ⟨a, f.an, c, f.es, q, h.o, h.n, h.c, D⟩) ((k8 g HI29.out.box.lt (fun e => by have := (HI29.out.own.own.lt _ e).1; have := HG1.out.1; omega)).trans HI29.out.box) 3
      have HB8 := hide O8.below
      refine step_appM (by rfl) (.tmp 21) (.tmp 36) (by rfl) (by rfl) (by rfl) r8 ?_
      refine hK.out _ _ (HSt5.out _ HB8.out) (fun hHeld => ?_)
      clear hK K
      clear r8 O8 k8
      refine wTk 18 ⟨some 38, .fieldAddr 29 (.tmp 3) 2, 0, "ref.go:166", #[⟨0, .phase⟩, ⟨1, .phase⟩, ⟨2, .phase⟩, ⟨3, .phase⟩, ⟨4, .phase⟩, ⟨5, .phase⟩, ⟨6, .phase⟩, ⟨7, .phase⟩, ⟨8, .phase⟩, ⟨9, .phase⟩, ⟨10, .phase⟩, ⟨11, .phase⟩, ⟨12, .phase⟩, ⟨13, .phase⟩, ⟨14, .phase⟩, ⟨15, .phase⟩, ⟨16, .phase⟩, ⟨17, .phase⟩], none⟩ rfl ?_
      refine wpAnyH_ready (rs := [19]) (by kernel_rfl) (by simp) (.cons rfl (fun K hK => ?_) .nil)
      go_simp
      refine hK.out _ _ (HSt5.out _ HN.out.own.below) (fun hHeld => ?_)
      clear hK K
      refine wpAnyH_done (by kernel_rfl) ?_ _
      clear hHeld
      clear hc8 hf8
      go_wp2_with fail
      go_roundw
      case rel => exact ⟨k + 1, _, _, Hlt.out, by simp, HN.out⟩
      case measure => simp [intOf]; have := Hlt.out; omega
     ·go_simp
      refine hK.out _ _ (HSt5.out _ (HI29.out.own.below.trans ((below_new u29 (.cells (ReC (mkR ⟨r.s, q29⟩)) 62)).mono HI29.out.own.below.size))) (fun hHeld => ?_)
      clear hK K
      refine wpAnyH_ready (rs := [1]) (by kernel_rfl) (by simp) ?_
      refine AllReadyH.cons rfl (fun K hK => ?_) AllReadyH.nil
      have d34 := (HI29.out.box.below (below_new u29 (.cells (ReC (mkR ⟨r.s, q29⟩)) 62))).cs.2
      go_simp
      refine hK.out _ _ (HSt5.out _ (HI29.out.own.below.trans ((below_new u29 (.cells (ReC (mkR ⟨r.s, q29⟩)) 62)).mono HI29.out.own.below.size))) (fun hHeld => ?_)
      clear hK K
      clear d34
      refine wpAnyH_ready (rs := [17]) (by kernel_rfl) (by simp) ?_
      refine AllReadyH.cons rfl (fun K hK => ?_) AllReadyH.nil
      obtain ⟨g8, c8, u8, r8, O8, k8, -, -⟩ := HI29.out.own.appAt ⟨r.s, q29⟩ ⟨HQ29.out.1, HOk.out.2⟩ HQ29.out.2.2.2 (by rw [HI29.out.num]; omega)
      have HN := hide (HI29.out.next (h2 := ⟨some ⟨g8, 0, none⟩, h.n + 1, c8⟩) HG1.out.2 HG1.out.1 O8 k8 HQ29.out.2.1 (by rw [HF.out.rs.len]; exact Hlt.out) (by rw [Hr.out, HQ29.out.2.2.1]) (by show h.n + 1 = k + 1; rw [HI29.out.num]))
      have hc8 : (u8.cell? ⟨g, 3, none⟩) = some (.slice h.o h.n h.c) := FaBox.c3 (m := mkF ⟨a, f.an, c, f.es, q, h.o, h.n, h.c, D⟩) ((k8 g HI29.out.box.lt (fun e => by have := (HI29.out.own.own.lt _ e).1; have := HG1.out.1; omega)).trans HI29.out.box)
      have hf8 : u8.frozen? ⟨g, 3, none⟩ = false := FaBox.fzC (m := mkF ⟨a, f.an, c, f.es, q, h.o, h.n, h.c, D⟩) ((k8 g HI29.out.box.lt (fun e => by have := (HI29.out.own.own.lt _ e).1; have := HG1.out.1; omega)).trans HI29.out.box) 3
      have HB8 := hide O8.below
      refine step_appM (by rfl) (.tmp 21) (.tmp 36) (by rfl) (by rfl) (by rfl) r8 ?_
      refine hK.out _ _ (HSt5.out _ HB8.out) (fun hHeld => ?_)
      clear hK K
      clear r8 O8 k8
      refine wTk 18 ⟨some 38, .fieldAddr 29 (.tmp 3) 2, 0, "ref.go:166", #[⟨0, .phase⟩, ⟨1, .phase⟩, ⟨2, .phase⟩, ⟨3, .phase⟩, ⟨4, .phase⟩, ⟨5, .phase⟩, ⟨6, .phase⟩, ⟨7, .phase⟩, ⟨8, .phase⟩, ⟨9, .phase⟩, ⟨10, .phase⟩, ⟨11, .phase⟩, ⟨12, .phase⟩, ⟨13, .phase⟩, ⟨14, .phase⟩, ⟨15, .phase⟩, ⟨16, .phase⟩, ⟨17, .phase⟩], none⟩ rfl ?_
      refine wpAnyH_ready (rs := [19]) (by kernel_rfl) (by simp) (.cons rfl (fun K hK => ?_) .nil)
      go_simp
      refine hK.out _ _ (HSt5.out _ HN.out.own.below) (fun hHeld => ?_)
      clear hK K
      refine wpAnyH_done (by kernel_rfl) ?_ _
      clear hHeld
      clear hc8 hf8
      go_wp2_with fail
      go_roundw
      case rel => exact ⟨k + 1, _, _, Hlt.out, by simp, HN.out⟩
      case measure => simp [intOf]; have := Hlt.out; omega
   ·have hlti : ¬ (k : Int) < (f.rn : Int) := by omega
    have hkn : k = f.rn := by omega
    have HZr := hide (HZ.out.below HI.out.own.below)
    have hW : Below w.heap.size w wr := HBK.out.trans (HI.out.own.below.mono HBK.out.size)
    obtain ⟨R1, R2, -⟩ := ownRc_row HI.out.own (by rw [HI.out.num]; omega)
    have lf := run_ldFa HI.out.box
    have HFc : FcOk wr ⟨a, f.an, c, f.es, q, h.o, h.n, h.c, D⟩ := ⟨esrc_fr HK.out.1.box HK.out.2.1 HI.out.fr, psrc_fr HK.out.1.box HK.out.2.2.1 HI.out.fr, R1.src⟩
    have hsz := HKb.out.size
    have hsk := HS3.out
    have HE := hide (give_fs (w := w) (f := ⟨a, f.an, c, f.es, q, h.o, h.n, h.c, D⟩) (EqC f) HZr.out HFc ⟨R1.room, R1.nil⟩ ⟨fun ad e => by have := HK.out.2.2.2.2.1 ad e; omega, HK.out.2.2.2.2.2.1.mono (by omega), fun ad e => by have := R2 ad e; omega, fun r hr => (HI.out.nq r hr).mono (by omega)⟩ hW (by omega) ⟨rfl, rfl, HK.out.2.2.2.1, by rw [show plR D = _ from HI.out.eq, hkn, List.take_of_length_le (by rw [HF.out.rs.len]; omega)], by rw [show h.n = k from HI.out.num, hkn]⟩)
    have stz := run_stFa (m' := mkF ⟨a, f.an, c, f.es, q, h.o, h.n, h.c, D⟩) HZr.out
    clear R1 R2 HFc hsz hsk hW hbig hk
    go_wp2_with fail
    clear c3 lf stz
    refine bodyPost_ret (res1Fa rfl rfl HE.out.1) rfl ?_
    exact HE.out.2
end
section
open Go.RowKit

def nrE (s : K.En) (d : Rn) : Int := or2 (cmpI s.rep d.lo) (cmpI s.num d.hi)
theorem nrE_neg (s : K.En) (d : Rn) : nrE s d < 0 ↔ s.rep < d.lo ∨ (s.rep = d.lo /\ s.num < d.hi) := by
 unfold nrE or2 cmpI
 by_cases h1 : s.rep < d.lo
 ·simp [h1]
 ·by_cases h2 : d.lo < s.rep
  ·simp [h1, h2]; omega
  ·have h3 : s.rep = d.lo := by omega
   by_cases h4 : s.num < d.hi
   ·simp [h3, h4]
   ·by_cases h5 : d.hi < s.num <;> simp [h3, h4, h5]
theorem nrE_any (s : K.En) (d : Rn) (w : World) : Calls Tryz.prog 57 #[K.EV s, RV d] w fun e w' => e = .returned (.int .i64 (nrE s d)) /\ Below w.heap.size w w' := by
 have b1 := below_new w (.cells (K.EC s) 36)
 have x1 := K.box_new w 36 s
 have s1 := World.size_alloc w (.cells (K.EC s) 36)
 obtain ⟨w1, hw1⟩ : ∃ w1, w.alloc (.cells (K.EC s) 36) = w1 := ⟨_, rfl⟩
 obtain ⟨g1, hg1⟩ : ∃ g1, w.heap.size = g1 := ⟨_, rfl⟩
 rw [hw1] at b1 x1 s1
 rw [hg1] at x1 s1
 have b2 := below_new w1 (.cells (RC d) 32)
 have x2 := box_new w1 32 d
 obtain ⟨w2, hw2⟩ : ∃ w2, w1.alloc (.cells (RC d) 32) = w2 := ⟨_, rfl⟩
 rw [hw2] at b2 x2
 rw [s1] at x2
 have HB := hide (b1.trans (b2.mono b1.size))
 have HX : Hid (K.Box w2 g1 36 s /\ Box w2 (g1 + 1) 32 d) := ⟨x1.below b2, x2⟩
 have HSt : Hid (∀ W, Below w2.heap.size w2 W -> W.cell? ⟨g1, 0, none⟩ = some (.int .i64 s.rep) /\ W.cell? ⟨g1, 1, none⟩ = some (.int .i64 s.num) /\ W.cell? ⟨g1 + 1, 0, none⟩ = some (.int .i64 d.lo) /\ W.cell? ⟨g1 + 1, 1, none⟩ = some (.int .i64 d.hi)) := fun W hW => by
  obtain ⟨c0, c2⟩ : W.cell? ⟨g1, 0, none⟩ = some (.int .i64 s.rep) /\ W.cell? ⟨g1, 1, none⟩ = some (.int .i64 s.num) := by
   have A := (HX.out.1.below hW).at
   exact ⟨A.c0, A.c1⟩
  have hd := (HX.out.2.below hW).at
  exact ⟨c0, c2, hd.c0, hd.c1⟩
 obtain ⟨p, Hp⟩ : ∃ p, Hid (cmpI s.rep d.lo = p) := ⟨_, rfl⟩
 obtain ⟨q, Hq⟩ : ∃ q, Hid (cmpI s.num d.hi = q) := ⟨_, rfl⟩
 have HR : Hid (nrE s d = or2 p q) := by show _ = _; unfold nrE; rw [Hp.out, Hq.out]
 clear b1 b2 x1 x2
 go_enter Tryz.func57, Tryz.ntmps57
 go_wp2_with fail
 clear hw1 hw2 s1 hg1
 refine wp_region_held_drew (S := fun W => W.cell? ⟨g1, 0, none⟩ = some (.int .i64 s.rep) /\ W.cell? ⟨g1, 1, none⟩ = some (.int .i64 s.num) /\ W.cell? ⟨g1 + 1, 0, none⟩ = some (.int .i64 d.lo) /\ W.cell? ⟨g1 + 1, 1, none⟩ = some (.int .i64 d.hi)) (by kernel_rfl) (HSt.out _ (below_drew1 w2)) (fun hHeld => ?_)
 refine wTk 0 ⟨some 5, .fieldAddr 36 (.tmp 2) 0, 0, "order.go:92", #[], none⟩ rfl ?_
 refine wTk 1 ⟨some 6, .fieldAddr 32 (.tmp 5) 0, 0, "order.go:92", #[⟨0, .data⟩], none⟩ rfl ?_
 refine wTk 2 ⟨some 7, .load 3 (.tmp 6), 3, "order.go:92", #[⟨1, .data⟩], none⟩ rfl ?_
 refine wTk 3 ⟨some 8, .fieldAddr 32 (.tmp 3) 0, 0, "order.go:92", #[], none⟩ rfl ?_
 refine wTk 4 ⟨some 9, .load 3 (.tmp 8), 3, "order.go:92", #[⟨3, .data⟩], none⟩ rfl ?_
 refine wTk 6 ⟨some 11, .fieldAddr 36 (.tmp 2) 0, 0, "order.go:92", #[], none⟩ rfl ?_
 refine wTk 7 ⟨some 12, .fieldAddr 32 (.tmp 11) 1, 0, "order.go:92", #[⟨6, .data⟩], none⟩ rfl ?_
 refine wTk 8 ⟨some 13, .load 3 (.tmp 12), 3, "order.go:92", #[⟨7, .data⟩], none⟩ rfl ?_
 refine wTk 9 ⟨some 14, .fieldAddr 32 (.tmp 3) 1, 0, "order.go:92", #[], none⟩ rfl ?_
 refine wTk 10 ⟨some 15, .load 3 (.tmp 14), 3, "order.go:92", #[⟨9, .data⟩], none⟩ rfl ?_
 refine wpAnyH_ready (rs := [5]) (by kernel_rfl) (by simp) (.cons rfl (fun K hK => ?_) .nil)
 go_simp
 go_wp2_with fail
 refine (cmp_any s.rep d.lo _).mono ?_
 rintro e w' ⟨rfl, rfl⟩
 rw [Hp.out]
 refine hK.out _ _ (HSt.out _ (below_drew1 w2)) (fun hHeld => ?_)
 clear hK K
 refine wpAnyH_ready (rs := [11]) (by kernel_rfl) (by simp) (.cons rfl (fun K hK => ?_) .nil)
 go_simp
 go_wp2_with fail
 refine (cmp_any s.num d.hi _).mono ?_
 rintro e w' ⟨rfl, rfl⟩
 rw [Hq.out]
 refine hK.out _ _ (HSt.out _ (below_drew1 w2)) (fun hHeld => ?_)
 clear hK K
 have HB3 := hide ((below_drew1 w2).trans (below_new w2.drew (.cells #[.int .i64 p, .int .i64 q] 3)))
 have HO := hide (or2_new p q w2.drew w2.heap.size rfl)
 refine wpAnyH_ready (rs := [12]) (by kernel_rfl) (by simp) (.cons rfl (fun K hK => ?_) .nil)
 go_simp
 refine hK.out _ _ (HSt.out _ HB3.out) (fun hHeld => ?_)
 clear hK K
 refine wpAnyH_ready (rs := [13]) (by kernel_rfl) (by simp) (.cons rfl (fun K hK => ?_) .nil)
 go_simp
 go_wp2_with fail
 refine HO.out.mono ?_
 rintro e w' ⟨rfl, rfl⟩
 refine hK.out _ _ (HSt.out _ HB3.out) (fun hHeld => ?_)
 clear hK K
 refine wTk 14 ⟨some 4, .assign (.tmp 18), 3, "order.go:92", #[⟨13, .data⟩, ⟨13, .chain⟩, ⟨0, .phase⟩, ⟨1, .phase⟩, ⟨2, .phase⟩, ⟨3, .phase⟩, ⟨4, .phase⟩, ⟨5, .phase⟩, ⟨6, .phase⟩, ⟨7, .phase⟩, ⟨8, .phase⟩, ⟨9, .phase⟩, ⟨10, .phase⟩, ⟨11, .phase⟩, ⟨12, .phase⟩, ⟨13, .phase⟩], none⟩ rfl ?_
 refine wpAnyH_done (by kernel_rfl) ?_ _
 clear hHeld
 go_wp2_with fail
 go_ret
 exact ⟨ret_int HR.out.symm, HB.out.trans (HB3.out.mono HB.out.size)⟩
end
end Go.Proofs.YtalpnhfoaohhhaaGreat
