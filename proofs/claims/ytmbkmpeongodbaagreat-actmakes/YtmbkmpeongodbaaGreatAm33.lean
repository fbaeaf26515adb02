/- EGd EKp EHk -/
import Derived.Test.YtmbkmpeongodbaaGreatAm31
import Derived.Test.YtmbkmpeongodbaaGreatAm32
import Derived.Test.YtmbkmpeongodbaaGreatAm21
import Derived.Test.YtmbkmpeongodbaaGreatAm30
namespace Go.Proofs.YtmbkmpeongodbaaGreat
open Go.RowKit
attribute [local go_sem ↓] ldP_eq stP_eq ldFa_eq stFa_eq ldAc_eq stAc_eq ldLm_eq stLm_eq bldF_eq
attribute [local go_sem] zero_PC cells_PV PC_size cells_FaV FaC_size zero_FaC cells_AcV AcC_size cells_LmV LmC_size run_bldF0
def bldQ (a : Array (Nat × Value)) : Sem Value := Instr.build 83 a
theorem bldQ_eq (a : Array (Nat × Value)) : Instr.build 83 a = bldQ a := rfl
attribute [local go_sem ↓] bldQ_eq
theorem run_bldQ (q : Scn) (w : World) : (bldQ #[(0, .slice q.ao q.n q.c), (1, .agg (PC q.p)), (2, .int .i64 q.r), (3, .agg (LmC ⟨q.ln, q.ct⟩))]).run Tryz.prog w = .ok (QsV (mkQ q)) w := by kernel_rfl
theorem ack_zero {k : Int} {A : Pst} {s : ByteArray} {q : Int} (h : AckOf k A s q 0) : 1 ≤ k ∧ k ≤ 6 ∧ ((k = 4 ∨ k = 6) → InForm A) ∧ (k ≤ 4 → K.good s.data.toList = true) ∧ (k ≤ 2 → 1 ≤ q ∧ q ≤ 1000000) := by
 obtain ⟨b, hb, h⟩ := h
 unfold ackF at h
 by_cases h1 : k < 1 ∨ 6 < k
 ·rw [if_pos h1] at h; exact absurd h (by decide)
 rw [if_neg h1] at h
 by_cases h2 : (k = 4 ∨ k = 6) ∧ b = false
 ·rw [if_pos h2] at h; exact absurd h (by decide)
 rw [if_neg h2] at h
 by_cases h3 : k ≤ 4 ∧ K.good s.data.toList = false
 ·rw [if_pos h3] at h; exact absurd h (by decide)
 rw [if_neg h3] at h
 by_cases h4 : k ≤ 2 ∧ (q < 1 ∨ 1000000 < q)
 ·rw [if_pos h4] at h; exact absurd h (by decide)
 refine ⟨by omega, by omega, fun e => hb.out.1 ?_, fun e => ?_, fun e => ?_⟩
 ·cases hbb : b
  ·exact absurd ⟨e, hbb⟩ h2
  ·rfl
 ·cases hg : K.good s.data.toList
  ·exact absurd ⟨e, hg⟩ h3
  ·rfl
 ·by_cases hq : q < 1 ∨ 1000000 < q
  ·exact absurd ⟨e, hq⟩ h4
  ·omega
theorem isR_of {r : Int} (h : RepOk r) : K.isR r = true := by
 unfold K.isR
 have := h.1
 have := h.2
 simp
 omega
theorem DeA.imp {w w' : World} {e : Ending} {D D' : Fc → Int → Prop} (h : DeA w w' e D) (hi : ∀ f er, D f er → D' f er) : DeA w w' e D' := by
 obtain ⟨f, er, h1, h2, h3, h4, h5⟩ := h
 exact ⟨f, er, h1, h2, h3, h4, hi f er h5⟩
set_option maxRecDepth 100000 in
theorem rule_any (Q : Scn) (k : Int) (s : ByteArray) (q : Int) (a : Pv) (hs : s.size ≤ maxLen) (hc : K.chk Q.L = 0) (hr : RepOk Q.r) (hk : AckOf k a.P s q 0) : ∃ N, ruleM k = some N ∧ (∀ (args : Array Value) (w : World), (callFunc N args).run Tryz.prog w = .ok (.enter N args) w) ∧ ∀ W, ScnOk W Q → PSrc W a → Calls Tryz.prog N #[QsV (mkQ Q), AcV (mkA k s q a)] W fun e w' => DeA W w' e (RuD Q.L Q.p.P Q.r Q.ln Q.ct k s q a.P) := by
 obtain ⟨h1, h2, -, h4, h5⟩ := ack_zero hk
 have : k = 1 ∨ k = 2 ∨ k = 3 ∨ k = 4 ∨ k = 5 ∨ k = 6 := by omega
 rcases this with rfl | rfl | rfl | rfl | rfl | rfl
 ·exact ⟨71, rfl, fun _ _ => rfl, fun W hQ hA => (set_any Q 1 s q a W hQ hA hs hc (h4 (by decide))).mono fun e w' h => h.imp fun f er d => .inl ⟨rfl, d⟩⟩
 ·exact ⟨72, rfl, fun _ _ => rfl, fun W hQ hA => (add_any Q 2 s q a W hQ hA hs hc (h4 (by decide)) (isR_of hr) (h5 (by decide))).mono fun e w' h => h.imp fun f er d => .inr (.inl ⟨rfl, d⟩)⟩
 ·exact ⟨73, rfl, fun _ _ => rfl, fun W hQ hA => (remove_any Q 3 s q a W hQ hA hs hc (h4 (by decide))).mono fun e w' h => h.imp fun f er d => .inr (.inr (.inl ⟨rfl, d⟩))⟩
 ·exact ⟨74, rfl, fun _ _ => rfl, fun W hQ hA => (removeTo_any Q 4 s q a W hQ hA hs hc).mono fun e w' h => h.imp fun f er d => .inr (.inr (.inr (.inl ⟨rfl, d⟩)))⟩
 ·exact ⟨75, rfl, fun _ _ => rfl, fun W hQ hA => (clearAll_any Q 5 s q a W hQ hA hs hc).mono fun e w' h => h.imp fun f er d => .inr (.inr (.inr (.inr (.inl ⟨rfl, d⟩))))⟩
 ·exact ⟨76, rfl, fun _ _ => rfl, fun W hQ hA => (clearTo_any Q 6 s q a W hQ hA hs hc).mono fun e w' h => h.imp fun f er d => .inr (.inr (.inr (.inr (.inr ⟨rfl, d⟩))))⟩
theorem seen_of {L : List K.En} {P : Pst} (h1 : K.chk L = 0) (h2 : InForm P) (h : L.filter (pkB P false) = []) : SeenAll L P := by
 refine ⟨h1, h2, fun e he => ?_⟩
 cases hb : inB P e
 ·have : e ∈ L.filter (pkB P false) := List.mem_filter.2 ⟨he, by unfold pkB; rw [hb]; rfl⟩
  rw [h] at this
  cases this
 ·rfl
theorem seen_no {L : List K.En} {P : Pst} (h : 0 < (L.filter (pkB P false)).length) : ¬ SeenAll L P := by
 rintro ⟨-, -, h2⟩
 obtain ⟨e, he⟩ := List.exists_mem_of_length_pos h
 rw [List.mem_filter] at he
 have h3 := h2 e he.1
 have h4 := he.2
 unfold pkB at h4
 rw [h3] at h4
 cases h4
theorem dec_pre (ao : Option Addr) (n c : Nat) (L : List K.En) (p : Pv) (ln ct : Int) (k : Int) (s : ByteArray) (q : Int) (a : Pv) (w : World) (hS : K.ESrc w ao n c L) (hP : PSrc w p) (hA : PSrc w a) {wk : World} (hwk : (((w.alloc (.cells (PC p) 26)).alloc (.cells (LmC ⟨ln, ct⟩) 28)).alloc (.cells (AcC (mkA k s q a)) 30)).alloc (.cells (FaC (mkF fc0)) 36) = wk) :
  PBox wk w.heap.size p ∧ LmBox wk (w.heap.size + 1) ⟨ln, ct⟩ ∧ AcBox wk (w.heap.size + 2) (mkA k s q a) ∧ FaBox wk (w.heap.size + 3) (mkF fc0) ∧ Below w.heap.size w wk ∧ K.ESrc wk ao n c L ∧ PSrc wk p ∧ PSrc wk a := by
 subst hwk
 have b1 := below_new w (.cells (PC p) 26)
 have b2 := below_new (w.alloc (.cells (PC p) 26)) (.cells (LmC ⟨ln, ct⟩) 28)
 have b3 := below_new ((w.alloc (.cells (PC p) 26)).alloc (.cells (LmC ⟨ln, ct⟩) 28)) (.cells (AcC (mkA k s q a)) 30)
 have b4 := below_new (((w.alloc (.cells (PC p) 26)).alloc (.cells (LmC ⟨ln, ct⟩) 28)).alloc (.cells (AcC (mkA k s q a)) 30)) (.cells (FaC (mkF fc0)) 36)
 have X1 := (((pbox_new w p).below b2).below b3).below b4
 have X2 := ((LmBox_new (w.alloc (.cells (PC p) 26)) ⟨ln, ct⟩).below b3).below b4
 have X3 := (AcBox_new ((w.alloc (.cells (PC p) 26)).alloc (.cells (LmC ⟨ln, ct⟩) 28)) (mkA k s q a)).below b4
 have X4 := FaBox_new (((w.alloc (.cells (PC p) 26)).alloc (.cells (LmC ⟨ln, ct⟩) 28)).alloc (.cells (AcC (mkA k s q a)) 30)) (mkF fc0)
 simp only [World.size_alloc] at X2 X3 X4
 have hb := b1.trans ((b2.trans ((b3.trans (b4.mono b3.size)).mono b2.size)).mono b1.size)
 exact ⟨X1, X2, X3, X4, hb, hS.below hb, hP.below hb, hA.below hb⟩
set_option maxRecDepth 100000 in
set_option maxHeartbeats 6400000 in
theorem decide_any (ao : Option Addr) (n c : Nat) (L : List K.En) (p : Pv) (r ln ct k : Int) (s : ByteArray) (q : Int) (a : Pv) (w : World) (hS : K.ESrc w ao n c L) (hP : PSrc w p) (hA : PSrc w a) (hs : s.size ≤ maxLen) (hk : i64ok k) :
  Calls Tryz.prog 8 #[.slice ao n c, PV p, .int .i64 r, LmV ⟨ln, ct⟩, AcV (mkA k s q a)] w fun e w' => DeA w w' e (DeD L p.P r ln ct k s q a.P) := by
 obtain ⟨wk, hwk⟩ : ∃ wk, (((w.alloc (.cells (PC p) 26)).alloc (.cells (LmC ⟨ln, ct⟩) 28)).alloc (.cells (AcC (mkA k s q a)) 30)).alloc (.cells (FaC (mkF fc0)) 36) = wk := ⟨_, rfl⟩
 obtain ⟨X1, X2, X3, X4, hb, hS', hP', hA'⟩ := dec_pre ao n c L p ln ct k s q a w hS hP hA hwk
 obtain ⟨G, hG⟩ : ∃ G, w.heap.size = G := ⟨_, rfl⟩
 rw [hG] at X1 X2 X3 X4
 have HX := hide X1
 have HXl := hide X2
 have HXa := hide X3
 have HXf := hide X4
 have HBK := hide hb
 have HS := hide hS'
 have HP := hide hP'
 have HA := hide hA'
 have HG := hide hG
 have HSs := hide hs
 have HK := hide hk
 clear X1 X2 X3 X4 hb hS' hP' hA' hS hP hA hs hk
 have lp := run_ldP HX.out.at
 go_enter Tryz.func8, Tryz.ntmps8
 go_wp2_with fail
 clear hwk hG lp
 refine (outside_any ao n c L p _ HS.out HP.out).mono ?_
 rintro x w1 (⟨hc, hI, a1, n1, c1, rfl, S1, b1, -⟩ | ⟨hno, a1, n1, c1, rfl, S1, b1, -⟩)
 rotate_left
 ·have HB1 := hide b1
  have HN : Hid (¬ SeenAll L p.P) := fun h => hno ⟨h.1, h.2.1⟩
  clear hno S1 b1
  have HXn := hide (HXf.out.below HB1.out)
  have tn : (stFa (.pointer (some ⟨G + 3, 0, none⟩)) (.agg (FaC (mkF fc0)))).run Tryz.prog w1 = .ok () (w1.setRow (G + 3) (FaC (mkF fc0))) := run_stFa (m' := mkF fc0) HXn.out
  have HE := hide (give_facts (w := w) (f := fc0) (er := 1) (DeD L p.P r ln ct k s q a.P) HXn.out (fc0_ok _) (fc0_new _) (HBK.out.trans (HB1.out.mono HBK.out.size)) (by have := HG.out; omega) (.inl ⟨HN.out, fc0_no, rfl⟩))
  go_wp2_with fail
  refine bodyPost_ret (res2Fa rfl rfl rfl HE.out.1) rfl ?_
  exact HE.out.2
 have HB1 := hide b1
 have HL1 : Hid ((L.filter (pkB p.P false)).length = n1) := S1.1
 have HC := hide hc
 have HI := hide hI
 clear S1 b1 hc hI
 by_cases h0 : 0 < n1
 ·have h0' : (0 : Int) < (n1 : Int) := by omega
  have HN : Hid (¬ SeenAll L p.P) := seen_no (by rw [HL1.out]; exact h0)
  have HXn := hide (HXf.out.below HB1.out)
  have tn : (stFa (.pointer (some ⟨G + 3, 0, none⟩)) (.agg (FaC (mkF fc0)))).run Tryz.prog w1 = .ok () (w1.setRow (G + 3) (FaC (mkF fc0))) := run_stFa (m' := mkF fc0) HXn.out
  have HE := hide (give_facts (w := w) (f := fc0) (er := 1) (DeD L p.P r ln ct k s q a.P) HXn.out (fc0_ok _) (fc0_new _) (HBK.out.trans (HB1.out.mono HBK.out.size)) (by have := HG.out; omega) (.inl ⟨HN.out, fc0_no, rfl⟩))
  go_wp2_with fail
  refine bodyPost_ret (res2Fa rfl rfl rfl HE.out.1) rfl ?_
  exact HE.out.2
 obtain rfl : n1 = 0 := by omega
 have HSn : Hid (SeenAll L p.P) := seen_of HC.out HI.out (List.length_eq_zero_iff.1 HL1.out)
 clear h0
 by_cases hr1 : r < 0
 ·have HN : Hid (¬ RepOk r) := fun h => by have := h.1; omega
  have HXn := hide (HXf.out.below HB1.out)
  have tn : (stFa (.pointer (some ⟨G + 3, 0, none⟩)) (.agg (FaC (mkF fc0)))).run Tryz.prog w1 = .ok () (w1.setRow (G + 3) (FaC (mkF fc0))) := run_stFa (m' := mkF fc0) HXn.out
  have HE := hide (give_facts (w := w) (f := fc0) (er := 3) (DeD L p.P r ln ct k s q a.P) HXn.out (fc0_ok _) (fc0_new _) (HBK.out.trans (HB1.out.mono HBK.out.size)) (by have := HG.out; omega) (.inr ⟨HSn.out, .inl ⟨HN.out, fc0_no, rfl⟩⟩))
  go_wp2_with fail
  refine bodyPost_ret (res2Fa rfl rfl rfl HE.out.1) rfl ?_
  exact HE.out.2
 by_cases hr2 : 16 ≤ r
 ·have HN : Hid (¬ RepOk r) := fun h => by have := h.2; omega
  have HXn := hide (HXf.out.below HB1.out)
  have tn : (stFa (.pointer (some ⟨G + 3, 0, none⟩)) (.agg (FaC (mkF fc0)))).run Tryz.prog w1 = .ok () (w1.setRow (G + 3) (FaC (mkF fc0))) := run_stFa (m' := mkF fc0) HXn.out
  have HE := hide (give_facts (w := w) (f := fc0) (er := 3) (DeD L p.P r ln ct k s q a.P) HXn.out (fc0_ok _) (fc0_new _) (HBK.out.trans (HB1.out.mono HBK.out.size)) (by have := HG.out; omega) (.inr ⟨HSn.out, .inl ⟨HN.out, fc0_no, rfl⟩⟩))
  go_wp2_with fail
  refine bodyPost_ret (res2Fa rfl rfl rfl HE.out.1) rfl ?_
  exact HE.out.2
 have HR : Hid (RepOk r) := ⟨by omega, by omega⟩
 have m1 := (HXl.out.below HB1.out).c0
 have m2 := (HXl.out.below HB1.out).c1
 dsimp only at m1 m2
 by_cases hl1 : ln < 1
 ·have HN : Hid (¬ LimOk ln ct) := fun h => by have := h.1; omega
  have HXn := hide (HXf.out.below HB1.out)
  have tn : (stFa (.pointer (some ⟨G + 3, 0, none⟩)) (.agg (FaC (mkF fc0)))).run Tryz.prog w1 = .ok () (w1.setRow (G + 3) (FaC (mkF fc0))) := run_stFa (m' := mkF fc0) HXn.out
  have HE := hide (give_facts (w := w) (f := fc0) (er := 2) (DeD L p.P r ln ct k s q a.P) HXn.out (fc0_ok _) (fc0_new _) (HBK.out.trans (HB1.out.mono HBK.out.size)) (by have := HG.out; omega) (.inr ⟨HSn.out, .inr ⟨HR.out, .inl ⟨HN.out, fc0_no, rfl⟩⟩⟩))
  go_wp2_with fail
  refine bodyPost_ret (res2Fa rfl rfl rfl HE.out.1) rfl ?_
  exact HE.out.2
 by_cases hl2 : 1000 < ln
 ·have HN : Hid (¬ LimOk ln ct) := fun h => by have := h.2.1; omega
  have HXn := hide (HXf.out.below HB1.out)
  have tn : (stFa (.pointer (some ⟨G + 3, 0, none⟩)) (.agg (FaC (mkF fc0)))).run Tryz.prog w1 = .ok () (w1.setRow (G + 3) (FaC (mkF fc0))) := run_stFa (m' := mkF fc0) HXn.out
  have HE := hide (give_facts (w := w) (f := fc0) (er := 2) (DeD L p.P r ln ct k s q a.P) HXn.out (fc0_ok _) (fc0_new _) (HBK.out.trans (HB1.out.mono HBK.out.size)) (by have := HG.out; omega) (.inr ⟨HSn.out, .inr ⟨HR.out, .inl ⟨HN.out, fc0_no, rfl⟩⟩⟩))
  go_wp2_with fail
  refine bodyPost_ret (res2Fa rfl rfl rfl HE.out.1) rfl ?_
  exact HE.out.2
 by_cases hl3 : ct < 1
 ·have HN : Hid (¬ LimOk ln ct) := fun h => by have := h.2.2.1; omega
  have HXn := hide (HXf.out.below HB1.out)
  have tn : (stFa (.pointer (some ⟨G + 3, 0, none⟩)) (.agg (FaC (mkF fc0)))).run Tryz.prog w1 = .ok () (w1.setRow (G + 3) (FaC (mkF fc0))) := run_stFa (m' := mkF fc0) HXn.out
  have HE := hide (give_facts (w := w) (f := fc0) (er := 2) (DeD L p.P r ln ct k s q a.P) HXn.out (fc0_ok _) (fc0_new _) (HBK.out.trans (HB1.out.mono HBK.out.size)) (by have := HG.out; omega) (.inr ⟨HSn.out, .inr ⟨HR.out, .inl ⟨HN.out, fc0_no, rfl⟩⟩⟩))
  go_wp2_with fail
  refine bodyPost_ret (res2Fa rfl rfl rfl HE.out.1) rfl ?_
  exact HE.out.2
 by_cases hl4 : 1000000000 < ct
 ·have HN : Hid (¬ LimOk ln ct) := fun h => by have := h.2.2.2; omega
  have HXn := hide (HXf.out.below HB1.out)
  have tn : (stFa (.pointer (some ⟨G + 3, 0, none⟩)) (.agg (FaC (mkF fc0)))).run Tryz.prog w1 = .ok () (w1.setRow (G + 3) (FaC (mkF fc0))) := run_stFa (m' := mkF fc0) HXn.out
  have HE := hide (give_facts (w := w) (f := fc0) (er := 2) (DeD L p.P r ln ct k s q a.P) HXn.out (fc0_ok _) (fc0_new _) (HBK.out.trans (HB1.out.mono HBK.out.size)) (by have := HG.out; omega) (.inr ⟨HSn.out, .inr ⟨HR.out, .inl ⟨HN.out, fc0_no, rfl⟩⟩⟩))
  go_wp2_with fail
  refine bodyPost_ret (res2Fa rfl rfl rfl HE.out.1) rfl ?_
  exact HE.out.2
 have HLm : Hid (LimOk ln ct) := ⟨by omega, by omega, by omega, by omega⟩
 have la := run_ldAc (HXa.out.below HB1.out)
 go_wp2_with fail
 clear la m1 m2 hl1 hl2 hl3 hl4 hr1 hr2
 refine (actCheck_any k s q a _ (HA.out.below HB1.out) HSs.out HK.out).mono ?_
 rintro x w2 ⟨z, rfl, hz, b2⟩
 have HB2 := hide (HB1.out.trans (b2.mono HB1.out.size))
 have HZ := hide hz
 clear b2 hz
 by_cases hz0 : z = 0
 rotate_left
 ·have hzb : (z != 0) = true := by simp [hz0]
  have HN := hide hz0
  clear hz0
  have HXn := hide (HXf.out.below HB2.out)
  have tn : (stFa (.pointer (some ⟨G + 3, 0, none⟩)) (.agg (FaC (mkF fc0)))).run Tryz.prog w2 = .ok () (w2.setRow (G + 3) (FaC (mkF fc0))) := run_stFa (m' := mkF fc0) HXn.out
  have HE := hide (give_facts (w := w) (f := fc0) (er := z) (DeD L p.P r ln ct k s q a.P) HXn.out (fc0_ok _) (fc0_new _) (HBK.out.trans (HB2.out.mono HBK.out.size)) (by have := HG.out; omega) (.inr ⟨HSn.out, .inr ⟨HR.out, .inr ⟨HLm.out, .inl ⟨HZ.out, HN.out, fc0_no⟩⟩⟩⟩))
  go_wp2_with fail
  refine bodyPost_ret (res2Fa rfl rfl rfl HE.out.1) rfl ?_
  exact HE.out.2
 subst hz0
 obtain ⟨N, hN, hcf, hR⟩ := rule_any ⟨ao, n, c, L, p, r, ln, ct⟩ k s q a HSs.out HC.out HR.out HZ.out
 have HRu := hide hR
 have HN := hide hN
 clear hN hR
 go_wp2_with fail
 have HD2 := hide (HB2.out.trans ((below_drew1 w2).mono HB2.out.size))
 have hbq := run_bldQ ⟨ao, n, c, L, p, r, ln, ct⟩
 dsimp only at hbq
 refine wp_region_held_drew (S := fun v => v.cell? ⟨G + 2, 0, none⟩ = some (.int .i64 k) ∧ (ldP (.pointer (some ⟨G, 0, none⟩))).run Tryz.prog v = .ok (PV p) v ∧ (ldLm (.pointer (some ⟨G + 1, 0, none⟩))).run Tryz.prog v = .ok (.agg (LmC ⟨ln, ct⟩)) v ∧ (ldAc (.pointer (some ⟨G + 2, 0, none⟩))).run Tryz.prog v = .ok (.agg (AcC (mkA k s q a))) v) (by kernel_rfl) (⟨(HXa.out.below HD2.out).k.1, run_ldP (HX.out.below HD2.out).at, run_ldLm (HXl.out.below HD2.out), run_ldAc (HXa.out.below HD2.out)⟩) (fun hHeld => ?_)
 refine wpAnyH_take (i := 1) (oi := ⟨some 65, .fieldAddr 30 (.tmp 9) 0, 0, "act.go:54", #[], none⟩) (v := ?_) rfl (by kernel_rfl) (by kernel_rfl) (by kernel_rfl) (fun _ _ _ h => h) (Or.inl ⟨by rfl, ?_⟩) (by assumption) ?_
 rotate_left
 ·(intro w hSw; (try dsimp only at hSw); obtain ⟨h1, h2, h3, h4⟩ := hSw; go_simp); first | done | with_reducible rfl
 simp only [Act.put, List.setIfInBounds_toArray, List.set_cons_zero, List.set_cons_succ]
 refine wpAnyH_take (i := 2) (oi := ⟨some 66, .load 3 (.tmp 65), 3, "act.go:54", #[⟨1, .data⟩], none⟩) (v := ?_) rfl (by kernel_rfl) (by kernel_rfl) (by kernel_rfl) (fun _ _ _ h => h) (Or.inl ⟨by rfl, ?_⟩) (by assumption) ?_
 rotate_left
 ·(intro w hSw; (try dsimp only at hSw); obtain ⟨h1, h2, h3, h4⟩ := hSw; go_simp); first | done | with_reducible rfl
 simp only [Act.put, List.setIfInBounds_toArray, List.set_cons_zero, List.set_cons_succ]
 refine wpAnyH_take (i := 4) (oi := ⟨some 68, .move (.tmp 0), 22, "act.go:54", #[], none⟩) (v := ?_) rfl (by kernel_rfl) (by kernel_rfl) (by kernel_rfl) (fun _ _ _ h => h) (Or.inl ⟨by rfl, ?_⟩) (by assumption) ?_
 rotate_left
 ·(intro w hSw; (try dsimp only at hSw); obtain ⟨h1, h2, h3, h4⟩ := hSw; go_simp); first | done | with_reducible rfl
 simp only [Act.put, List.setIfInBounds_toArray, List.set_cons_zero, List.set_cons_succ]
 refine wpAnyH_take (i := 5) (oi := ⟨some 69, .load 26 (.tmp 6), 26, "act.go:54", #[], none⟩) (v := ?_) rfl (by kernel_rfl) (by kernel_rfl) (by kernel_rfl) (fun _ _ _ h => h) (Or.inl ⟨by rfl, ?_⟩) (by assumption) ?_
 rotate_left
 ·(intro w hSw; (try dsimp only at hSw); obtain ⟨h1, h2, h3, h4⟩ := hSw; go_simp); first | done | with_reducible rfl
 simp only [Act.put, List.setIfInBounds_toArray, List.set_cons_zero, List.set_cons_succ]
 refine wpAnyH_take (i := 6) (oi := ⟨some 70, .move (.tmp 2), 3, "act.go:54", #[], none⟩) (v := ?_) rfl (by kernel_rfl) (by kernel_rfl) (by kernel_rfl) (fun _ _ _ h => h) (Or.inl ⟨by rfl, ?_⟩) (by assumption) ?_
 rotate_left
 ·(intro w hSw; (try dsimp only at hSw); obtain ⟨h1, h2, h3, h4⟩ := hSw; go_simp); first | done | with_reducible rfl
 simp only [Act.put, List.setIfInBounds_toArray, List.set_cons_zero, List.set_cons_succ]
 refine wpAnyH_take (i := 7) (oi := ⟨some 71, .load 28 (.tmp 8), 28, "act.go:54", #[], none⟩) (v := ?_) rfl (by kernel_rfl) (by kernel_rfl) (by kernel_rfl) (fun _ _ _ h => h) (Or.inl ⟨by rfl, ?_⟩) (by assumption) ?_
 rotate_left
 ·(intro w hSw; (try dsimp only at hSw); obtain ⟨h1, h2, h3, h4⟩ := hSw; go_simp); first | done | with_reducible rfl
 simp only [Act.put, List.setIfInBounds_toArray, List.set_cons_zero, List.set_cons_succ]
 refine wpAnyH_take (i := 8) (oi := ⟨some 72, .build 83 #[(0, .tmp 68), (1, .tmp 69), (2, .tmp 70), (3, .tmp 71)], 83, "act.go:54", #[⟨4, .data⟩, ⟨5, .data⟩, ⟨6, .data⟩, ⟨7, .data⟩], none⟩) (v := ?_) rfl (by kernel_rfl) (by kernel_rfl) (by kernel_rfl) (fun _ _ _ h => h) (Or.inl ⟨by rfl, ?_⟩) (by assumption) ?_
 rotate_left
 ·(intro w hSw; (try dsimp only at hSw); obtain ⟨h1, h2, h3, h4⟩ := hSw; go_simp); first | done | with_reducible rfl
 simp only [Act.put, List.setIfInBounds_toArray, List.set_cons_zero, List.set_cons_succ]
 refine wpAnyH_take (i := 9) (oi := ⟨some 73, .load 30 (.tmp 9), 30, "act.go:54", #[], none⟩) (v := ?_) rfl (by kernel_rfl) (by kernel_rfl) (by kernel_rfl) (fun _ _ _ h => h) (Or.inl ⟨by rfl, ?_⟩) (by assumption) ?_
 rotate_left
 ·(intro w hSw; (try dsimp only at hSw); obtain ⟨h1, h2, h3, h4⟩ := hSw; go_simp); first | done | with_reducible rfl
 simp only [Act.put, List.setIfInBounds_toArray, List.set_cons_zero, List.set_cons_succ]
 refine wpAnyH_ready (rs := [0]) (by kernel_rfl) (by simp) (.cons rfl (fun K hK => ?_) .nil)
 go_simp
 go_wp2_with fail
 refine (rules_any _).mono ?_
 rintro e w3 ⟨rfl, hM, b3⟩
 have HB3 := hide (HD2.out.trans (b3.mono HD2.out.size))
 have hl : (Instr.lookup 80 (.map (some w2.heap.size)) (.int .i64 k) false).run Tryz.prog w3 = .ok (.func (.func N) #[] #[]) w3 := by have h := hM.look (x := k) HK.out; rw [HN.out] at h; exact h
 refine hK.out _ _ ⟨(HXa.out.below HB3.out).k.1, run_ldP (HX.out.below HB3.out).at, run_ldLm (HXl.out.below HB3.out), run_ldAc (HXa.out.below HB3.out)⟩ (fun hHeld => ?_)
 clear hK K hM b3
 refine wpAnyH_ready (rs := [3]) (by kernel_rfl) (by simp) (.cons rfl (fun K hK => ?_) .nil)
 go_simp
 refine hK.out _ _ ⟨(HXa.out.below HB3.out).k.1, run_ldP (HX.out.below HB3.out).at, run_ldLm (HXl.out.below HB3.out), run_ldAc (HXa.out.below HB3.out)⟩ (fun hHeld => ?_)
 clear hK K hl
 refine wpAnyH_ready (rs := [10]) (by kernel_rfl) (by simp) (.cons rfl (fun K hK => ?_) .nil)
 go_simp
 go_wp2_with fail
 refine (HRu.out _ ⟨HS.out.below HB3.out, HP.out.below HB3.out⟩ (HA.out.below HB3.out)).mono ?_
 rintro e w4 ⟨f, er, rfl, F1, N1, b4, D1⟩
 have HB4 := hide (HB3.out.trans (b4.mono HB3.out.size))
 have hlt : G + 3 < w3.heap.size := (HXf.out.below HB3.out).lt
 have HXn := hide (HXf.out.below HB4.out)
 have tn := run_stFa (m' := mkF f) HXn.out
 have HE := hide (give_facts (w := w) (f := f) (er := er) (DeD L p.P r ln ct k s q a.P) HXn.out F1 (N1.mono (by omega)) (HBK.out.trans (HB4.out.mono HBK.out.size)) (by have := HG.out; omega) (.inr ⟨HSn.out, .inr ⟨HR.out, .inr ⟨HLm.out, .inr ⟨HZ.out, D1⟩⟩⟩⟩))
 refine hK.out _ _ ⟨(HXa.out.below HB4.out).k.1, run_ldP (HX.out.below HB4.out).at, run_ldLm (HXl.out.below HB4.out), run_ldAc (HXa.out.below HB4.out)⟩ (fun hHeld => ?_)
 clear hK K F1 N1 D1 b4 hlt
 refine wpAnyH_take (i := 11) (oi := ⟨some 75, .extract (.tmp 74) 0, 36, "act.go:54", #[⟨10, .data⟩], none⟩) (v := ?_) rfl (by kernel_rfl) (by kernel_rfl) (by kernel_rfl) (fun _ _ _ h => h) (Or.inl ⟨by rfl, ?_⟩) (by assumption) ?_
 rotate_left
 ·(intro w hSw; (try dsimp only at hSw); obtain ⟨h1, h2, h3, h4⟩ := hSw; go_simp); first | done | with_reducible rfl
 simp only [Act.put, List.setIfInBounds_toArray, List.set_cons_zero, List.set_cons_succ]
 refine wpAnyH_take (i := 12) (oi := ⟨some 76, .extract (.tmp 74) 1, 37, "act.go:54", #[⟨10, .data⟩], none⟩) (v := ?_) rfl (by kernel_rfl) (by kernel_rfl) (by kernel_rfl) (fun _ _ _ h => h) (Or.inl ⟨by rfl, ?_⟩) (by assumption) ?_
 rotate_left
 ·(intro w hSw; (try dsimp only at hSw); obtain ⟨h1, h2, h3, h4⟩ := hSw; go_simp); first | done | with_reducible rfl
 simp only [Act.put, List.setIfInBounds_toArray, List.set_cons_zero, List.set_cons_succ]
 refine wpAnyH_ready (rs := [13]) (by kernel_rfl) (by simp) (.cons rfl (fun K hK => ?_) .nil)
 go_simp
 refine hK.out _ _ ?_ (fun hHeld => ?_)
 ·have e0 : ∀ j, j ≠ G + 3 → (w4.setRow (G + 3) (FaC (mkF f))).heap[j]? = w4.heap[j]? := fun j hj => setRow_other _ _ _ _ (by omega)
  have y1 : PBox (w4.setRow (G + 3) (FaC (mkF f))) G p := (e0 G (by omega)).trans (HX.out.below HB4.out)
  have y2 : LmBox (w4.setRow (G + 3) (FaC (mkF f))) (G + 1) ⟨ln, ct⟩ := (e0 (G + 1) (by omega)).trans (HXl.out.below HB4.out)
  have y3 : AcBox (w4.setRow (G + 3) (FaC (mkF f))) (G + 2) (mkA k s q a) := (e0 (G + 2) (by omega)).trans (HXa.out.below HB4.out)
  exact ⟨y3.k.1, run_ldP y1.at, run_ldLm y2, run_ldAc y3⟩
 clear hK K tn
 refine wpAnyH_take (i := 14) (oi := ⟨some 11, .assign (.tmp 76), 37, "act.go:54", #[⟨12, .data⟩, ⟨13, .chain⟩, ⟨0, .phase⟩, ⟨1, .phase⟩, ⟨2, .phase⟩, ⟨3, .phase⟩, ⟨4, .phase⟩, ⟨5, .phase⟩, ⟨6, .phase⟩, ⟨7, .phase⟩, ⟨8, .phase⟩, ⟨9, .phase⟩, ⟨10, .phase⟩, ⟨11, .phase⟩, ⟨12, .phase⟩, ⟨13, .phase⟩], none⟩) (v := ?_) rfl (by kernel_rfl) (by kernel_rfl) (by kernel_rfl) (fun _ _ _ h => h) (Or.inl ⟨by rfl, ?_⟩) (by assumption) ?_
 rotate_left
 ·(intro w hSw; (try dsimp only at hSw); obtain ⟨h1, h2, h3, h4⟩ := hSw; go_simp); first | done | with_reducible rfl
 simp only [Act.put, List.setIfInBounds_toArray, List.set_cons_zero, List.set_cons_succ]
 refine wpAnyH_done (by kernel_rfl) ?_ _
 clear hHeld
 go_wp2_with fail
 refine bodyPost_ret (res2Fa rfl rfl rfl HE.out.1) rfl ?_
 exact HE.out.2
end Go.Proofs.YtmbkmpeongodbaaGreat
namespace Go.Proofs.YtmbkmpeongodbaaGreat
open Go.RowKit
def mkE (D : List Rn) (s : ByteArray) (i : Nat) : K.En := ⟨(D.getD i rn0).lo, (D.getD i rn0).hi, s, 1 + (i : Int)⟩
def mkL (D : List Rn) (s : ByteArray) (k : Nat) : List K.En := (List.range k).map (mkE D s)
theorem mkL_succ (D : List Rn) (s : ByteArray) (k : Nat) : mkL D s (k + 1) = mkL D s k ++ [mkE D s k] := by
 unfold mkL
 rw [List.range_succ, List.map_append]
 rfl
theorem mkL_dots (D : List Rn) (s : ByteArray) : (mkL D s D.length).map dotOf = D := by
 unfold mkL
 rw [List.map_map]
 refine List.ext_getElem (by simp) fun i h1 h2 => ?_
 simp only [List.getElem_map, List.getElem_range, Function.comp]
 show (⟨(D.getD i rn0).lo, (D.getD i rn0).hi⟩ : Rn) = D[i]
 rw [show D.getD i rn0 = D[i] by simp [List.getD, h2]]
theorem mkL_in {D : List Rn} {s : ByteArray} {k : Nat} {x : K.En} (h : x ∈ mkL D s k) : x.sku = s ∧ 1 ≤ x.qty ∧ x.qty ≤ (k : Int) := by
 obtain ⟨i, hi, rfl⟩ := List.mem_map.1 h
 have := List.mem_range.1 hi
 exact ⟨rfl, by show 1 ≤ 1 + (i : Int); omega, by show 1 + (i : Int) ≤ _; omega⟩
theorem mkL_chk {D : List Rn} {s : ByteArray} {P : Pst} (hr : D.Pairwise ltD) (hD : ∀ d, d ∈ D ↔ dotIn P d) (hl : D.length ≤ 300) (hg : K.good s.data.toList = true) : K.chk (mkL D s D.length) = 0 := by
 refine K.chk_asc ?_ fun e he => ?_
 ·have h : ((mkL D s D.length).map dotOf).Pairwise ltD := by rw [mkL_dots]; exact hr
  rw [List.pairwise_map] at h
  refine h.imp fun {x y} hxy => ?_
  unfold K.ahead
  unfold ltD dotOf at hxy
  simp only at hxy
  simp
  omega
 ·have h1 : dotOf e ∈ D := by rw [← mkL_dots D s]; exact List.mem_map.2 ⟨e, he, rfl⟩
  have h2 := (hD _).1 h1
  have h2' : V.isR e.rep = true := h2.1
  have h3 : 0 ≤ e.rep ∧ e.rep < 16 := by simpa [V.isR] using h2'
  have h4 := (mem_runs P e.rep.toNat (by omega) e.num).1 h2.2
  obtain ⟨h5, h6, h7⟩ := mkL_in he
  exact ce_of h3 ⟨h4.1, h4.2.1⟩ (by rw [h5]; exact hg) ⟨h6, by omega⟩
theorem canon_mem_congr {G G' : Nat → List Rn} {P : Pst} (h : CanonOf G P) (e : ∀ r, r < 16 → ∀ n, mem (G r) n ↔ mem (G' r) n) : CanonOf G' P := by
 obtain ⟨N, hN, rfl⟩ := h
 exact ⟨N, fun r hr => ⟨(hN r hr).1, fun n => ((hN r hr).2 n).trans (e r hr n)⟩, rfl⟩
theorem mkL_gone {D : List Rn} {s : ByteArray} {P : Pst} (hI : InForm P) (hD : ∀ d, d ∈ D ↔ dotIn P d) : CanonOf (dotsG ((mkL D s D.length).map dotOf)) P := by
 rw [mkL_dots]
 refine canon_mem_congr (canon_iff.2 hI : CanonOf (runsAt P) P) fun r hr n => ?_
 rw [dotsG_mem]
 constructor
 ·intro h
  have h2 := (mem_runs P r hr n).1 h
  refine ⟨⟨(r : Int), n⟩, (hD _).2 ⟨by unfold V.isR; simp; omega, by simpa using h⟩, ?_, rfl, rfl⟩
  unfold okD V.isR
  simp
  omega
 ·rintro ⟨d, hd, -, h1, h2⟩
  have h3 := ((hD d).1 hd).2
  rw [h1, h2] at h3
  simpa using h3
theorem mkL_flS {D : List Rn} {s : ByteArray} (k : Nat) : flS (mkL D s k) s = mkL D s k := List.filter_eq_self.2 fun e he => by rw [(mkL_in he).1]; exact eqS_self s
theorem not_full {L : List K.En} {s : ByteArray} (h : flS L s = L) : ¬ FullF L (flS L s) 1 := by
 rintro ⟨h1, R, hR, hl⟩
 rw [h] at h1
 subst h1
 rcases hR with ⟨-, -, h2⟩ | ⟨-, -, -, hm⟩
 ·exact absurd h2 (by decide)
 ·have : R = [] := List.eq_nil_iff_forall_not_mem.2 fun l hl => by
   obtain ⟨e, he, -⟩ := (hm l).1 hl
   cases he
  rw [this] at hl
  exact absurd hl (by decide)
theorem mkL_seen {D : List Rn} {s : ByteArray} {P Q : Pst} (hr : D.Pairwise ltD) (hD : ∀ d, d ∈ D ↔ dotIn P d) (hl : D.length ≤ 300) (hg : K.good s.data.toList = true) (hQ : InForm Q) (hPQ : ∀ d, dotIn P d → dotIn Q d) : SeenAll (mkL D s D.length) Q := by
 refine ⟨mkL_chk hr hD hl hg, hQ, fun e he => ?_⟩
 rw [inB_iff]
 refine hPQ _ ((hD _).1 ?_)
 show dotOf e ∈ D
 have : dotOf e ∈ (mkL D s D.length).map dotOf := List.mem_map.2 ⟨e, he, rfl⟩
 rw [mkL_dots] at this
 exact this
theorem lim_one : LimOk 1 1000000000 := ⟨by decide, by decide, by decide, by decide⟩
theorem ack_of {k : Int} {A : Pst} {s : ByteArray} {q : Int} (h1 : 1 ≤ k ∧ k ≤ 6) (h2 : k = 4 ∨ k = 6 → InForm A) (h3 : k ≤ 4 → K.good s.data.toList = true) (h4 : k ≤ 2 → 1 ≤ q ∧ q ≤ 1000000) : AckOf k A s q 0 := by
 obtain ⟨b, hb⟩ := BIf.ex (InForm A)
 refine ⟨b, hb, ?_⟩
 unfold ackF
 rw [if_neg (by omega), if_neg (fun h => by have := hb.out.2 (h2 h.1); rw [h.2] at this; cases this), if_neg (fun h => by rw [h3 h.1] at h; exact absurd h.2 (by decide)), if_neg (fun h => by have := h4 h.1; omega)]
theorem mk_clear {D : List Rn} {f : Fc} {r q : Int} {t s : ByteArray} {A : Pst} (hD : D.Pairwise ltD ∧ ∀ d, d ∈ D ↔ dotIn f.p.P d) (hl : D.length ≤ 300) (hg : K.good s.data.toList = true) (hI : InForm f.p.P) (hr : RepOk r) (he : f.es = []) (hs : f.rs = []) : DeD (mkL D s D.length) f.p.P r 1 1000000000 5 t q A f 0 :=
 .inr ⟨mkL_seen hD.1 hD.2 hl hg hI (fun _ h => h), .inr ⟨hr, .inr ⟨lim_one, .inr ⟨ack_of ⟨by decide, by decide⟩ (fun h => absurd h (by decide)) (fun h => absurd h (by decide)) (fun h => absurd h (by decide)), .inr (.inr (.inr (.inr (.inl ⟨rfl, he, hs, mkL_gone hI hD.2, rfl⟩))))⟩⟩⟩⟩
theorem empty_zero {P : Pst} (hI : InForm P) (h : EmptyP P) : P = pv0.P :=
 (canon_iff.2 hI : CanonOf (runsAt P) P).unique (canon_iff.2 zero_form : CanonOf (runsAt pv0.P) pv0.P) fun r hr n => ⟨fun hm => absurd hm (h r hr n), fun hm => absurd hm (zero_empty r hr n)⟩
theorem mk_rec {D : List Rn} {f : Fc} {k r q : Int} {s t : ByteArray} {rc : Rc} (hD : D.Pairwise ltD ∧ ∀ d, d ∈ D ↔ dotIn f.p.P d) (hl : D.length ≤ 300) (hg : K.good s.data.toList = true) (hI : InForm f.p.P) (hE : EmptyP f.p.P) (hr : RepOk r) (he : f.es = []) (hs : f.rs = [rc]) (hR : RecOk rc) (hk : (k = 4 ∧ t = rc.s ∧ ¬ rc.s.size = 0) ∨ (k = 6 ∧ rc.s = ⟨#[]⟩)) : DeD (mkL D s D.length) f.p.P r 1 1000000000 k t q rc.p.P f 0 := by
 have hrec : ∀ u, rc.s = u → RecD u rc.p.P f 0 := fun u hu => ⟨rfl, .inr ⟨hR.2.2, he, empty_zero hI hE, rc, hs, hu, canon_iff.2 hR.2.1⟩⟩
 refine .inr ⟨mkL_seen hD.1 hD.2 hl hg hI (fun _ h => h), .inr ⟨hr, .inr ⟨lim_one, .inr ⟨?_, ?_⟩⟩⟩⟩
 ·rcases hk with ⟨rfl, rfl, hz⟩ | ⟨rfl, -⟩
  ·refine ack_of ⟨by decide, by decide⟩ (fun _ => hR.2.1) (fun _ => ?_) (fun h => absurd h (by decide))
   have h1 := hR.1
   unfold skuR at h1
   rw [decide_eq_false hz, Bool.false_or] at h1
   exact h1
  ·exact ack_of ⟨by decide, by decide⟩ (fun _ => hR.2.1) (fun h => absurd h (by decide)) (fun h => absurd h (by decide))
 ·rcases hk with ⟨rfl, rfl, -⟩ | ⟨rfl, hz⟩
  ·exact .inr (.inr (.inr (.inl ⟨rfl, hrec _ rfl⟩)))
  ·exact .inr (.inr (.inr (.inr (.inr ⟨rfl, hrec _ hz⟩))))
theorem seen_last {P Q : Pst} {r m k0 : Int} (hr : RepOk r) (hk : LastOf P r k0) (hlt : k0 < m) (hm : 1 ≤ m ∧ m ≤ 1000000000) (hQ : ∀ n, mem (runsAt Q r.toNat) n ↔ mem (runsAt P r.toNat) n ∨ (1 ≤ n ∧ n ≤ 1000000000 ∧ n ≤ m - 1)) : LastOf Q r (m - 1) := by
 have hR : V.isR r = true := by unfold V.isR; have := hr.1; have := hr.2; simp; omega
 refine .inl ⟨hR, ?_⟩
 have hP : ∀ n, mem (runsAt P r.toNat) n → n ≤ k0 := by
  rcases hk with ⟨-, ⟨-, h⟩ | ⟨-, h⟩⟩ | ⟨h, -⟩
  ·exact fun n hn => absurd hn (h n)
  ·exact h
  ·rw [hR] at h; cases h
 by_cases e : m = 1
 ·refine .inl ⟨by omega, fun n hn => ?_⟩
  rcases (hQ n).1 hn with h | ⟨h1, -, h2⟩
  ·have := hP n h
   have := h.1
   omega
  ·omega
 ·refine .inr ⟨(hQ _).2 (.inr ⟨by omega, by omega, by omega⟩), fun n hn => ?_⟩
  rcases (hQ n).1 hn with h | ⟨-, -, h⟩
  ·have := hP n h; omega
  ·exact h
theorem mk_set {D : List Rn} {f : Fc} {e1 : K.En} {k0 : Int} {A Q : Pst} (hD : D.Pairwise ltD ∧ ∀ d, d ∈ D ↔ dotIn f.p.P d) (hl : D.length ≤ 300) (hI : InForm f.p.P) (he : f.es = [e1]) (hs : f.rs = []) (hc : K.ceE e1 = 0) (hk : LastOf f.p.P e1.rep k0) (hlt : k0 < e1.num) (hQ : InForm Q) (hm : ∀ r, r < 16 → ∀ n, mem (runsAt Q r) n ↔ mem (runsAt f.p.P r) n ∨ ((r : Int) = e1.rep ∧ 1 ≤ n ∧ n ≤ 1000000000 ∧ n ≤ e1.num - 1)) : DeD (mkL D e1.sku D.length) Q e1.rep 1 1000000000 1 e1.sku e1.qty A f 0 := by
 have hg := K.ce_good hc
 have hq := K.ce_qty hc
 have hd := ce_dot hc
 unfold okD dotOf V.isR at hd
 simp only [Bool.and_eq_true, decide_eq_true_eq] at hd
 have hr : RepOk e1.rep := ⟨hd.1.1, hd.1.2⟩
 have h16 : e1.rep.toNat < 16 := by have := hd.1; omega
 have hsub : ∀ d, dotIn f.p.P d → dotIn Q d := fun d h => by
  have h3 : 0 ≤ d.lo ∧ d.lo < 16 := by simpa [V.isR] using h.1
  exact ⟨h.1, (hm _ (by omega) _).2 (.inl h.2)⟩
 have hlast := seen_last (P := f.p.P) (Q := Q) hr hk hlt ⟨hd.2.1, hd.2.2⟩ fun n => by
  rw [hm _ h16]
  have : ((e1.rep.toNat : Nat) : Int) = e1.rep := by omega
  rw [this]
  simp
 have hnx : NxF Q e1.rep 1000000000 ⟨e1.rep, e1.num⟩ 0 := .inr ⟨hQ, .inr ⟨by unfold V.isR; simp; omega, e1.num - 1, hlast, .inr ⟨by rw [Int.min_self]; omega, by rw [show e1.num - 1 + 1 = e1.num by omega], rfl⟩⟩⟩
 refine .inr ⟨mkL_seen hD.1 hD.2 hl hg hQ hsub, .inr ⟨hr, .inr ⟨lim_one, .inr ⟨ack_of ⟨by decide, by decide⟩ (fun h => absurd h (by decide)) (fun _ => hg) (fun _ => hq), .inl ⟨rfl, .inr ⟨not_full (mkL_flS _), ⟨e1.rep, e1.num⟩, 0, hnx, .inr ⟨rfl, rfl, he, ?_, hs⟩⟩⟩⟩⟩⟩⟩
 rw [mkL_flS]
 exact mkL_gone hI hD.2
end Go.Proofs.YtmbkmpeongodbaaGreat
namespace Go.Proofs.YtmbkmpeongodbaaGreat
open Go.RowKit
theorem zero_Fa0 : (#[.slice none 0 0, .slice none 0 0, .slice none 0 0, .slice none 0 0] : Array Value) = FaC fa0 := rfl
def bldLm (a : Array (Nat × Value)) : Sem Value := Instr.build 28 a
theorem bldLm_eq (a : Array (Nat × Value)) : Instr.build 28 a = bldLm a := rfl
theorem run_bldLm (a b : Int) (w : World) : (bldLm #[(0, .int .i64 a), (1, .int .i64 b)]).run Tryz.prog w = .ok (.agg (LmC ⟨a, b⟩)) w := by kernel_rfl
def bldA (a : Array (Nat × Value)) : Sem Value := Instr.build 30 a
theorem bldA_eq (a : Array (Nat × Value)) : Instr.build 30 a = bldA a := rfl
theorem run_bldA3 (k q : Int) (s : ByteArray) (w : World) : (bldA #[(0, .int .i64 k), (1, .string s), (2, .int .i64 q)]).run Tryz.prog w = .ok (.agg (AcC (mkA k s q pv0))) w := by kernel_rfl
def knS : ByteArray := ⟨#[65]⟩
def knL : List K.En := [⟨0, 1, knS, 5⟩, ⟨1, 2, knS, 7⟩]
def knP : Pst := ⟨[3, 3], []⟩
theorem knL_chk : K.chk knL = 0 := by decide +kernel
theorem knP_form : InForm knP := ⟨by decide, trivial⟩
theorem kn_seen : SeenAll knL knP := ⟨knL_chk, knP_form, by decide +kernel⟩
theorem kn_good : K.good knS.data.toList = true := by decide +kernel
theorem kn_ack : AckOf 1 pv0.P knS 9 0 := by
 obtain ⟨b, hb⟩ := BIf.ex (InForm pv0.P)
 refine ⟨b, hb, ?_⟩
 rw [kn_good]
 unfold ackF
 simp
theorem kn_last : LastOf knP 0 3 := by
 refine Or.inl ⟨by decide, Or.inr ?_⟩
 have h : ∀ n, mem (runsAt knP (0 : Int).toNat) n ↔ _ := fun n => mem_runs knP 0 (by decide) n
 refine ⟨(h 3).2 ⟨by decide, by decide, Or.inl (by decide)⟩, fun n hn => ?_⟩
 rcases (h n).1 hn with ⟨_, _, h3 | ⟨c, hc, _⟩⟩
 ·exact h3
 ·cases hc
theorem kn_next : NxF knP 0 4 ⟨0, 4⟩ 0 := Or.inr ⟨knP_form, Or.inr ⟨by decide, 3, kn_last, Or.inr ⟨by decide, rfl, rfl⟩⟩⟩
theorem kn_of : flS knL knS = knL := by decide +kernel
theorem kn_full : ¬ FullF knL (flS knL knS) 2 := by
 rintro ⟨h, -⟩
 rw [kn_of] at h
 cases h
theorem kn_dec {f : Fc} {er : Int} (h : DeD knL knP 0 2 4 1 knS 9 pv0.P f er) : er = 0 ∧ f.es = [⟨0, 4, knS, 9⟩] := by
 rcases h with ⟨h, -⟩ | ⟨-, ⟨h, -⟩ | ⟨-, ⟨h, -⟩ | ⟨-, ⟨h, h0, -⟩ | ⟨-, h⟩⟩⟩⟩
 ·exact absurd kn_seen h
 ·exact absurd ⟨by decide, by decide⟩ h
 ·exact absurd ⟨by decide, by decide, by decide, by decide⟩ h
 ·exact absurd (h.unique kn_ack) h0
 rcases h with ⟨-, h⟩ | ⟨h, -⟩ | ⟨h, -⟩ | ⟨h, -⟩ | ⟨h, -⟩ | ⟨h, -⟩
 ·rcases h with ⟨h, -⟩ | ⟨-, d, x, hd, h⟩
  ·exact absurd h kn_full
  obtain ⟨rfl, rfl⟩ := hd.unique kn_next
  rcases h with ⟨h, -⟩ | ⟨-, h1, h2, -⟩
  ·exact absurd rfl h
  ·exact ⟨h1, h2⟩
 all_goals exact absurd h (by decide)
theorem kn_past (w : World) (g : Nat) (hg : w.heap.size = g) : PSrc (w.alloc (.cells #[.int .i64 3, .int .i64 3] 3)) ⟨some ⟨g, 0, none⟩, 2, 2, none, 0, 0, knP⟩ :=
 ⟨vsrc_lit w 3 _ [3, 3] rfl g 2 hg rfl, SSrc.empty _, (show (2 : Nat) ≤ 17592186044415 by decide)⟩
attribute [local go_sem ↓] ldP_eq stP_eq ldFa_eq stFa_eq bldE_eq bldD_eq bldP_eq bldLm_eq bldA_eq K.ld28_eq K.st28_eq
attribute [local go_sem] cells_PV PC_size cells_FaV FaC_size zero_Fa0 run_bldE run_bldD run_bldP1 run_bldLm run_bldA3 cells_agg
set_option maxRecDepth 100000 in
set_option maxHeartbeats 3200000 in
theorem known_any (w : World) : Calls Tryz.prog 6 #[] w fun e w' => e = .returned (.bool true) ∧ Below w.heap.size w w' := by
 obtain ⟨g1, hg1⟩ : ∃ g1, w.heap.size = g1 := ⟨_, rfl⟩
 have b1 := below_new w (.cells #[.int .i64 0, .int .i64 1, .string ⟨#[65]⟩, .int .i64 5, .int .i64 1, .int .i64 2, .string ⟨#[65]⟩, .int .i64 7] 46)
 have s1 := K.lit_esrc w knL #[.int .i64 0, .int .i64 1, .string ⟨#[65]⟩, .int .i64 5, .int .i64 1, .int .i64 2, .string ⟨#[65]⟩, .int .i64 7] rfl 46 2 rfl (by decide) (by decide)
 obtain ⟨w1, hw1⟩ : ∃ w1, w.alloc (.cells #[.int .i64 0, .int .i64 1, .string ⟨#[65]⟩, .int .i64 5, .int .i64 1, .int .i64 2, .string ⟨#[65]⟩, .int .i64 7] 46) = w1 := ⟨_, rfl⟩
 rw [hw1] at b1 s1
 rw [hg1] at s1
 obtain ⟨g2, hg2⟩ : ∃ g2, w1.heap.size = g2 := ⟨_, rfl⟩
 have b2 := below_new w1 (.cells #[.int .i64 3, .int .i64 3] 3)
 have s2 := kn_past w1 g2 hg2
 obtain ⟨w2, hw2⟩ : ∃ w2, w1.alloc (.cells #[.int .i64 3, .int .i64 3] 3) = w2 := ⟨_, rfl⟩
 rw [hw2] at b2 s2
 have HB2 := hide (b1.trans (b2.mono b1.size))
 have HS1 := hide (s1.below b2)
 have HS2 := hide s2
 clear b1 s1 b2 s2
 go_enter Tryz.func6, Tryz.ntmps6
 go_wp2_with fail
 clear hw1 hw2 hg1 hg2
 refine (decide_any (some ⟨g1, 0, none⟩) 2 2 knL ⟨some ⟨g2, 0, none⟩, 2, 2, none, 0, 0, knP⟩ 0 2 4 1 knS 9 pv0 w2 HS1.out HS2.out (PSrc.zero _) (by decide) ⟨by decide, by decide⟩).mono ?_
 rintro e w3 ⟨f, er, rfl, F3, -, b3, D3⟩
 obtain ⟨rfl, hes⟩ := kn_dec D3
 obtain ⟨g4, hg4⟩ : ∃ g4, w3.heap.size = g4 := ⟨_, rfl⟩
 obtain ⟨w4, hst, X4, B4, -⟩ := madeFa w3 (mkF f) g4 hg4
 have HB4 := hide (HB2.out.trans ((b3.trans (B4.mono b3.size)).mono HB2.out.size))
 have hE := F3.es.below B4
 rw [hes] at hE
 have hn : f.an = 1 := hE.1.symm
 obtain ⟨ad, hao, A0⟩ := hE.at 0 (by rw [hn]; decide)
 rw [Nat.zero_mul, K.add_zero] at A0
 have hsp := World.cell?_spot A0.c0
 obtain ⟨bb, oo, sp⟩ := ad
 have hsp2 : sp = none := hsp
 subst hsp2
 have c3 : w4.cell? ⟨bb, oo + 3, none⟩ = some (.int .i64 9) := by have h := A0.c3; rw [Addr.add_lit] at h; exact h
 have c1 : w4.cell? ⟨bb, oo + 1, none⟩ = some (.int .i64 4) := by have h := A0.c1; rw [Addr.add_lit] at h; exact h
 have c0 := X4.cs.1
 rw [hao, hn] at c0
 clear D3 hes F3 b3 X4 B4 hE hn A0 hsp HS1 HS2
 go_wp2_with fail
 go_ret
 exact ⟨rfl, HB4.out⟩
end Go.Proofs.YtmbkmpeongodbaaGreat
