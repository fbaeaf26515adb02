/- LOw EGr -/
import Derived.Test.YtmbkmpeongodbaaGreatAm20
import Derived.Test.YtmbkmpeongodbaaGreatAm30
namespace Go.Proofs.YtmbkmpeongodbaaGreat.K
open Go.RowKit
attribute [local go_sem ↓] ld28_eq st28_eq
attribute [local go_sem] zero_EC cells_EV EC_size fold_EC
set_option maxHeartbeats 1600000 in
theorem pickOwn_any (ao : Option Addr) (n cap : Nat) (L : List En) (b b' : Nat) (p : En → Bool) (w : World) (hS : ESrc w ao n cap L)
  (hp : ∀ W, Below w.heap.size w W → ∀ e, Calls Tryz.prog 52 #[EV e, .pointer (some ⟨b, 0, none⟩), .pointer (some ⟨b', 0, none⟩)] W fun x w' => x = .returned (.bool (p e)) ∧ Below W.heap.size W w') :
  Calls Tryz.prog 51 #[.slice ao n cap, .func (.func 52) #[] #[.pointer (some ⟨b, 0, none⟩), .pointer (some ⟨b', 0, none⟩)]] w fun x w' => GivesE w w' x (L.filter p) := by
 have HS := hide hS
 have hn := hS.2.2.2.2
 have HL : Hid (L.length = n) := hS.1
 have HP := hide hp
 clear hS hp
 go_enter Tryz.func51, Tryz.ntmps51
 go_wp2_with fail
 go_loopw [5, 10] (fun v i wr => ∃ (k : Nat) (ap : Option Addr) (c : Nat), k ≤ n ∧ v = .slice ap ((L.take k).filter p).length c ∧ i = .int .i64 k ∧ Hid (OwnE w.heap.size w.heap.size w wr ap c ((L.take k).filter p))) (fun _ i _ => n - (intOf i).toNat)
 case atStart => exact ⟨0, none, 0, Nat.zero_le _, rfl, rfl, OwnE.nil (Below.refl _ _) (Nat.le_refl _) (Nat.le_refl _)⟩
 case round =>
  obtain ⟨k, ap, c, hk, rfl, rfl, HO⟩ := hrel
  obtain ⟨acc, Hacc⟩ : ∃ acc, Hid ((L.take k).filter p = acc) := ⟨_, rfl⟩
  have hal : acc.length ≤ k := by
   rw [← Hacc.out]; have h1 := List.length_filter_le p (L.take k); have h2 := List.length_take_le k L; omega
  rw [Hacc.out] at HO ⊢
  by_cases hlt : k < n
  ·obtain ⟨ad, rfl, A0⟩ := (HS.out.below HO.out.below).at k hlt
   have hld := run_ld28 A0
   obtain ⟨e, He⟩ : ∃ e, Hid (L.getD k en0 = e) := ⟨_, rfl⟩
   rw [He.out] at hld A0
   have HT := hide (take_snoc L k (by rw [HL.out]; exact hlt))
   rw [He.out] at HT
   obtain ⟨w1, hst, X1, B1, Z1⟩ := made wr e wr.heap.size rfl
   have HX := hide X1
   have O1 := hide (HO.out.later B1)
   have lx := run_ld28 X1.at
   have HC := hide (HP.out w1 O1.out.below e)
   clear X1 B1 A0
   obtain ⟨q, Hq⟩ : ∃ q, Hid (p e = q) := ⟨_, rfl⟩
   rw [Hq.out] at HC
   cases q with
   | false =>
    have HN : Hid ((L.take (k + 1)).filter p = acc) := by show _ = _; rw [HT.out, List.filter_append, Hacc.out]; simp [Hq.out]
    go_wp2_with fail
    refine HC.out.mono ?_
    rintro x w2 ⟨rfl, b2⟩
    have O2 := hide (O1.out.later b2)
    clear b2
    go_wp2_with fail
    go_roundw
    case rel => exact ⟨k + 1, ap, c, by omega, by rw [HN.out], by go_num, by rw [HN.out]; exact O2⟩
    case measure => simp [intOf]; omega
   | true =>
    have HN : Hid ((L.take (k + 1)).filter p = acc ++ [e]) := by show _ = _; rw [HT.out, List.filter_append, Hacc.out]; simp [Hq.out]
    go_wp2_with fail
    refine HC.out.mono ?_
    rintro x w2 ⟨rfl, b2⟩
    have O2 := O1.out.later b2
    have l2 := run_ld28 (HX.out.below b2).at
    clear b2 lx
    go_wp2_with (at_builtin; refine O2.append e _ rfl (by omega) rfl (.tmp 17) (.tmp 19) rfl acc.length rfl rfl rfl ?_; intro g4 c4 w4 O4 hk4)
    go_roundw
    case rel => exact ⟨k + 1, some ⟨g4, 0, none⟩, c4, by omega, by rw [HN.out]; simp, by go_num, by rw [HN.out]; exact O4⟩
    case measure => simp [intOf]; omega
  ·obtain rfl : k = n := by omega
   have HF : Hid (L.filter p = acc) := by show _ = _; rw [← Hacc.out, List.take_of_length_le (by rw [HL.out]; exact Nat.le_refl _)]
   have hs : ∀ e ∈ acc, e.sku.size ≤ maxLen := by
    intro e he; rw [← HF.out] at he; exact HS.out.2.2.2.1 e ((List.mem_filter.1 he).1)
   obtain ⟨S1, F1⟩ := HO.out.src hs (by omega)
   have HS1 := hide S1
   have HF1 := hide F1
   clear S1 F1 hs
   go_wp2_with fail
   go_ret
   exact ⟨_, _, _, rfl, by rw [HF.out]; exact HS1.out, HO.out.below, HF1.out⟩
theorem ownLit_any (e : En) (b b' : Nat) (z : Int) (s : ByteArray) (W : World) (hc : W.cell? ⟨b, 0, none⟩ = some (.int .i64 z)) (hc' : W.cell? ⟨b', 0, none⟩ = some (.string s)) :
  Calls Tryz.prog 52 #[EV e, .pointer (some ⟨b, 0, none⟩), .pointer (some ⟨b', 0, none⟩)] W fun x w' => x = .returned (.bool (e.rep == z && eqS e.sku s)) ∧ Below W.heap.size W w' := by
 obtain ⟨r, m, t, q⟩ := e
 have HB : Hid (Below W.heap.size W (W.alloc (.cells #[.int .i64 r, .int .i64 m, .string t, .int .i64 q] 46))) := below_new _ _
 have hlt := World.block_lt_of_cell? _ _ hc
 have hlt' := World.block_lt_of_cell? _ _ hc'
 have hc1 : (W.alloc (.cells #[.int .i64 r, .int .i64 m, .string t, .int .i64 q] 46)).cell? ⟨b, 0, none⟩ = some (.int .i64 z) := by rw [HB.out.cell hlt]; exact hc
 have hc2 : (W.alloc (.cells #[.int .i64 r, .int .i64 m, .string t, .int .i64 q] 46)).cell? ⟨b', 0, none⟩ = some (.string s) := by rw [HB.out.cell hlt']; exact hc'
 clear hc hlt hc' hlt'
 show Calls Tryz.prog 52 #[.agg #[.int .i64 r, .int .i64 m, .string t, .int .i64 q], .pointer (some ⟨b, 0, none⟩), .pointer (some ⟨b', 0, none⟩)] W fun x w' => x = .returned (.bool (r == z && eqS t s)) ∧ Below W.heap.size W w'
 by_cases h : r = z
 ·have h' : (r == z) = true := by simpa using h
  have HF : Hid ((r == z && eqS t s) = (t.toList == s.toList)) := by show _ = _; rw [h']; rfl
  clear h
  go_enter Tryz.func52, Tryz.ntmps52
  go_wp2_with fail
  go_ret
  exact ⟨ret_bool HF.out.symm, HB.out⟩
 ·have h' : (r == z) = false := by simpa using h
  have HF : Hid ((r == z && eqS t s) = false) := by show _ = _; rw [h']; rfl
  clear h
  go_enter Tryz.func52, Tryz.ntmps52
  go_wp2_with fail
  go_ret
  exact ⟨ret_bool HF.out.symm, HB.out⟩
set_option maxHeartbeats 1600000 in
theorem own_any (ao : Option Addr) (n cap : Nat) (L : List En) (r : Int) (s : ByteArray) (w : World) (hS : ESrc w ao n cap L) (hs : s.size ≤ maxLen) :
  Calls Tryz.prog 16 #[.slice ao n cap, .int .i64 r, .string s] w fun x w' => GivesEE w w' x (owV L r s) (owE L r s) := by
 have B0 := hide ((below_new w (.cells #[.int .i64 r] 3)).trans ((below_new (w.alloc (.cells #[.int .i64 r] 3)) (.cells #[.string s] 9)).mono (by simp)))
 have S0 := hide (hS.below B0.out)
 have HC0 : Hid (((w.alloc (.cells #[.int .i64 r] 3)).alloc (.cells #[.string s] 9)).cell? ⟨w.heap.size, 0, none⟩ = some (.int .i64 r)) := by show _ = _; simp
 have HD0 : Hid (((w.alloc (.cells #[.int .i64 r] 3)).alloc (.cells #[.string s] 9)).cell? ⟨w.heap.size + 1, 0, none⟩ = some (.string s)) := by show _ = _; simp
 have HSs := hide hs
 obtain ⟨w0, Hw0⟩ : ∃ w0, Hid ((w.alloc (.cells #[.int .i64 r] 3)).alloc (.cells #[.string s] 9) = w0) := ⟨_, rfl⟩
 rw [Hw0.out] at B0 S0 HC0 HD0
 clear hS hs
 go_enter Tryz.func16, Tryz.ntmps16
 go_wp2_with fail
 rw [Hw0.out]
 refine (lcheck_any _ _ _ L _ S0.out).mono ?_
 rintro x w1 ⟨rfl, b1⟩
 have B1 := hide (B0.out.trans (b1.mono B0.out.size))
 have S1 := hide (S0.out.below b1)
 have c1 : w1.cell? ⟨w.heap.size, 0, none⟩ = some (.int .i64 r) := by rw [b1.cell (World.block_lt_of_cell? _ _ HC0.out)]; exact HC0.out
 have d1 : w1.cell? ⟨w.heap.size + 1, 0, none⟩ = some (.string s) := by rw [b1.cell (World.block_lt_of_cell? _ _ HD0.out)]; exact HD0.out
 clear b1 S0 B0 HC0 HD0 Hw0
 rcases chk_cases L with h | h
 ·rw [h]
  obtain ⟨q, Hq⟩ : ∃ q, Hid (isR r = q) := ⟨_, rfl⟩
  cases q with
  | false =>
   have HE : Hid (owE L r s = 3) := by show _ = _; unfold owE; rw [if_pos h, Hq.out]; rfl
   have HV : Hid (owV L r s = []) := by show _ = _; unfold owV; rw [HE.out]; rfl
   clear h
   go_wp2_with (go_at_call 49; refine (isRep_any r _).mono ?_; rintro e w' ⟨rfl, rfl⟩; rw [Hq.out])
   go_ret2
   rw [HE.out, HV.out]
   exact ⟨_, _, _, rfl, ESrc.none _, B1.out, fun ad h => by cases h⟩
  | true =>
   obtain ⟨gd, Hg⟩ : ∃ gd, Hid (good s.data.toList = gd) := ⟨_, rfl⟩
   cases gd with
   | false =>
    have HE : Hid (owE L r s = 5) := by show _ = _; unfold owE; rw [if_pos h, Hq.out, Hg.out]; rfl
    have HV : Hid (owV L r s = []) := by show _ = _; unfold owV; rw [HE.out]; rfl
    clear h
    go_wp2_with (first | (go_at_call 49; refine (isRep_any r _).mono ?_; rintro e w' ⟨rfl, rfl⟩; rw [Hq.out]) | (go_at_call 50; refine (good_any s _ HSs.out).mono ?_; rintro e w' ⟨rfl, rfl⟩; rw [Hg.out]))
    go_ret2
    rw [HE.out, HV.out]
    exact ⟨_, _, _, rfl, ESrc.none _, B1.out, fun ad h => by cases h⟩
   | true =>
    have HE : Hid (owE L r s = 0) := by show _ = _; unfold owE; rw [if_pos h, Hq.out, Hg.out]; rfl
    have HV : Hid (owV L r s = L.filter (fun e => e.rep == r && eqS e.sku s)) := by show _ = _; unfold owV; rw [HE.out]; rfl
    clear h
    have HP : Hid (∀ W, Below w1.heap.size w1 W → ∀ e, Calls Tryz.prog 52 #[EV e, .pointer (some ⟨w.heap.size, 0, none⟩), .pointer (some ⟨w.heap.size + 1, 0, none⟩)] W fun x w' => x = .returned (.bool (e.rep == r && eqS e.sku s)) ∧ Below W.heap.size W w') := fun W hW e =>
     ownLit_any e w.heap.size (w.heap.size + 1) r s W (by rw [hW.cell (World.block_lt_of_cell? _ _ c1)]; exact c1) (by rw [hW.cell (World.block_lt_of_cell? _ _ d1)]; exact d1)
    go_wp2_with (first | (go_at_call 49; refine (isRep_any r _).mono ?_; rintro e w' ⟨rfl, rfl⟩; rw [Hq.out]) | (go_at_call 50; refine (good_any s _ HSs.out).mono ?_; rintro e w' ⟨rfl, rfl⟩; rw [Hg.out]) | (go_at_call 51; refine (pickOwn_any _ _ _ L w.heap.size (w.heap.size + 1) (fun e => e.rep == r && eqS e.sku s) _ S1.out HP.out).mono ?_; rintro x w2 ⟨a2, n2, q2, rfl, S2, b2, F2⟩))
    go_ret2
    rw [HE.out, HV.out]
    exact ⟨_, _, _, rfl, S2, B1.out.trans (b2.mono B1.out.size), fun ad h => Nat.le_trans B1.out.size (F2 ad h)⟩
 ·have HE : Hid (owE L r s = 1) := by show _ = _; unfold owE; rw [h]; rfl
  have HV : Hid (owV L r s = []) := by show _ = _; unfold owV; rw [HE.out]; rfl
  rw [h]
  clear h
  go_wp2_with fail
  go_ret2
  rw [HE.out, HV.out]
  exact ⟨_, _, _, rfl, ESrc.none _, B1.out, fun ad h => by cases h⟩
end Go.Proofs.YtmbkmpeongodbaaGreat.K
namespace Go.Proofs.YtmbkmpeongodbaaGreat
open Go.RowKit
attribute [local go_sem ↓] ldP_eq stP_eq ldFa_eq stFa_eq ldAc_eq stAc_eq ldQs_eq stQs_eq K.ld28_eq K.st28_eq bldF_eq
attribute [local go_sem] zero_PC cells_PV PC_size fold_PC cells_FaV FaC_size zero_FaC cells_AcV AcC_size cells_QsV QsC_size run_bldF0 run_bldF1 run_bldF2 run_bldF3
theorem of_fl {L : List K.En} {s : ByteArray} (hc : K.chk L = 0) (hg : K.good s.data.toList = true) : K.ofE L s = 0 ∧ K.ofV L s = flS L s := by
 have h : K.ofE L s = 0 := by unfold K.ofE; rw [if_pos hc, if_pos hg]
 exact ⟨h, by unfold K.ofV; rw [if_pos h]; rfl⟩
theorem ow_fl {L : List K.En} {r : Int} {s : ByteArray} (hc : K.chk L = 0) (hr : K.isR r = true) (hg : K.good s.data.toList = true) : K.owE L r s = 0 ∧ K.owV L r s = flO L r s := by
 have h : K.owE L r s = 0 := by unfold K.owE; rw [if_pos hc, if_pos hr, if_pos hg]
 exact ⟨h, by unfold K.owV; rw [if_pos h]; rfl⟩
theorem ttl_few {L : List K.En} (h : K.chk L = 0) : 0 ≤ K.ttl L ∧ K.ttl L ≤ 16000000000000000 := by
 have h1 := K.ttl_bd L (K.chk_all h)
 have h2 := K.chk_len h
 omega
theorem wrap_few {x : Int} (h1 : -1000000000000000000 ≤ x) (h2 : x ≤ 1000000000000000000) : IntKind.i64.wrap x = x := by
 rw [IntKind.wrap_i64]; omega
theorem rule_pre (q : Scn) (k : Int) (s : ByteArray) (qt : Int) (a : Pv) (w : World) (hQ : ScnOk w q) (hA : PSrc w a) {wk : World} (hwk : ((w.alloc (.cells (QsC (mkQ q)) 83)).alloc (.cells (AcC (mkA k s qt a)) 30)).alloc (.cells (FaC (mkF fc0)) 36) = wk) :
  QsBox wk w.heap.size (mkQ q) ∧ AcBox wk (w.heap.size + 1) (mkA k s qt a) ∧ FaBox wk (w.heap.size + 2) (mkF fc0) ∧ Below w.heap.size w wk ∧ ScnOk wk q ∧ PSrc wk a := by
 subst hwk
 have b1 := below_new w (.cells (QsC (mkQ q)) 83)
 have b2 := below_new (w.alloc (.cells (QsC (mkQ q)) 83)) (.cells (AcC (mkA k s qt a)) 30)
 have b3 := below_new ((w.alloc (.cells (QsC (mkQ q)) 83)).alloc (.cells (AcC (mkA k s qt a)) 30)) (.cells (FaC (mkF fc0)) 36)
 have X1 := ((QsBox_new w (mkQ q)).below b2).below b3
 have X2 := (AcBox_new (w.alloc (.cells (QsC (mkQ q)) 83)) (mkA k s qt a)).below b3
 have X3 := FaBox_new ((w.alloc (.cells (QsC (mkQ q)) 83)).alloc (.cells (AcC (mkA k s qt a)) 30)) (mkF fc0)
 simp only [World.size_alloc] at X2 X3
 have hb := b1.trans ((b2.trans (b3.mono b2.size)).mono b1.size)
 exact ⟨X1, X2, X3, hb, hQ.below hb, hA.below hb⟩
set_option maxRecDepth 100000 in
set_option maxHeartbeats 3200000 in
theorem set_any (q : Scn) (k : Int) (s : ByteArray) (qt : Int) (a : Pv) (w : World) (hQ : ScnOk w q) (hA : PSrc w a) (hs : s.size ≤ maxLen) (hc : K.chk q.L = 0) (hg : K.good s.data.toList = true) :
  Calls Tryz.prog 71 #[QsV (mkQ q), AcV (mkA k s qt a)] w fun e w' => DeA w w' e (SetD q.L q.p.P q.r q.ln q.ct s qt) := by
 obtain ⟨wk, hwk⟩ : ∃ wk, ((w.alloc (.cells (QsC (mkQ q)) 83)).alloc (.cells (AcC (mkA k s qt a)) 30)).alloc (.cells (FaC (mkF fc0)) 36) = wk := ⟨_, rfl⟩
 obtain ⟨X1, X2, X3, hb, hQ', hA'⟩ := rule_pre q k s qt a w hQ hA hwk
 obtain ⟨G, hG⟩ : ∃ G, w.heap.size = G := ⟨_, rfl⟩
 rw [hG] at X1 X2 X3
 have HX := hide X1
 have HXa := hide X2
 have HXf := hide X3
 have HBK := hide hb
 have HQ := hide hQ'
 have HA := hide hA'
 have HG := hide hG
 have HC := hide hc
 have HSs := hide hs
 have HGd := hide hg
 clear X1 X2 X3 hb hQ' hA' hQ hA hc hs hg
 have l1 := HX.out.live
 obtain ⟨-, l2, -⟩ := HXa.out.k
 go_enter Tryz.func71, Tryz.ntmps71
 go_wp2_with fail
 clear hwk hG l1 l2
 refine (K.of_any q.ao q.n q.c q.L s _ HQ.out.live HSs.out).mono ?_
 rw [(of_fl HC.out HGd.out).1, (of_fl HC.out HGd.out).2]
 rintro x w1 ⟨a1, n1, c1, rfl, S1, b1, -⟩
 have HB1 := hide b1
 have HS1 := hide S1
 have HQ1 := hide (HQ.out.below b1)
 have HL1 : Hid ((flS q.L s).length = n1) := S1.1
 clear S1 b1
 have l3 := run_ldQs (HX.out.below HB1.out)
 go_wp2_with fail
 clear l3
 refine (isFull_any q a1 n1 c1 (flS q.L s) _ HQ1.out HS1.out HC.out).mono ?_
 rintro x w2 ⟨b, rfl, hb, b2⟩
 have HB2 := hide (HB1.out.trans (b2.mono HB1.out.size))
 have HS2 := hide (HS1.out.below b2)
 have HQ2 := hide (HQ1.out.below b2)
 have HFu := hide hb
 clear hb b2
 cases b with
 | true =>
  have HXn := hide (HXf.out.below HB2.out)
  have tn : (stFa (.pointer (some ⟨G + 2, 0, none⟩)) (.agg (FaC (mkF fc0)))).run Tryz.prog w2 = .ok () (w2.setRow (G + 2) (FaC (mkF fc0))) := run_stFa (m' := mkF fc0) HXn.out
  have HE := hide (give_facts (w := w) (f := fc0) (er := 12) (SetD q.L q.p.P q.r q.ln q.ct s qt) HXn.out (fc0_ok _) (fc0_new _) (HBK.out.trans (HB2.out.mono HBK.out.size)) (by have := HG.out; omega) (.inl ⟨HFu.out.out.1 rfl, fc0_no, rfl⟩))
  go_wp2_with fail
  refine bodyPost_ret (res2Fa rfl rfl rfl HE.out.1) rfl ?_
  exact HE.out.2
 | false =>
  have HNF : Hid (¬ FullF q.L (flS q.L s) q.ln) := fun h => by have := HFu.out.out.2 h; cases this
  have l4 := run_ldQs (HX.out.below HB2.out)
  obtain ⟨-, l5, l6⟩ := (HXa.out.below HB2.out).k
  go_wp2_with fail
  clear l4 l5 l6
  refine (replace_any q a1 n1 c1 (flS q.L s) s qt _ HQ2.out HS2.out (filter_chkE HC.out) HSs.out).mono ?_
  rintro x w3 ⟨f, er, rfl, F1, N1, b3, D1⟩
  have HB3 := hide (HB2.out.trans (b3.mono HB2.out.size))
  have hlt : G + 2 < w2.heap.size := (HXf.out.below HB2.out).lt
  clear b3
  have HXn := hide (HXf.out.below HB3.out)
  have tn := run_stFa (m' := mkF f) HXn.out
  have hltn : G + 2 < w2.heap.size := by have := hlt; exact this
  have HE := hide (give_facts (w := w) (f := f) (er := er) (SetD q.L q.p.P q.r q.ln q.ct s qt) HXn.out F1 (N1.mono (by omega)) (HBK.out.trans (HB3.out.mono HBK.out.size)) (by have := HG.out; omega) (.inr ⟨HNF.out, D1⟩))
  clear F1 N1 D1 hltn hlt
  go_wp2_with fail
  refine bodyPost_ret (res2Fa rfl rfl rfl HE.out.1) rfl ?_
  exact HE.out.2
set_option maxRecDepth 100000 in
set_option maxHeartbeats 3200000 in
theorem add_any (q : Scn) (k : Int) (s : ByteArray) (qt : Int) (a : Pv) (w : World) (hQ : ScnOk w q) (hA : PSrc w a) (hs : s.size ≤ maxLen) (hc : K.chk q.L = 0) (hg : K.good s.data.toList = true) (hr : K.isR q.r = true) (hq : 1 ≤ qt ∧ qt ≤ 1000000) :
  Calls Tryz.prog 72 #[QsV (mkQ q), AcV (mkA k s qt a)] w fun e w' => DeA w w' e (AddD q.L q.p.P q.r q.ln q.ct s qt) := by
 obtain ⟨wk, hwk⟩ : ∃ wk, ((w.alloc (.cells (QsC (mkQ q)) 83)).alloc (.cells (AcC (mkA k s qt a)) 30)).alloc (.cells (FaC (mkF fc0)) 36) = wk := ⟨_, rfl⟩
 obtain ⟨X1, X2, X3, hb, hQ', hA'⟩ := rule_pre q k s qt a w hQ hA hwk
 obtain ⟨G, hG⟩ : ∃ G, w.heap.size = G := ⟨_, rfl⟩
 rw [hG] at X1 X2 X3
 have HX := hide X1
 have HXa := hide X2
 have HXf := hide X3
 have HBK := hide hb
 have HQ := hide hQ'
 have HA := hide hA'
 have HG := hide hG
 have HC := hide hc
 have HSs := hide hs
 have HGd := hide hg
 have HR := hide hr
 have HQt := hide hq
 clear X1 X2 X3 hb hQ' hA' hQ hA hc hs hg hr hq
 have l1 := HX.out.live
 obtain ⟨-, l2, -⟩ := HXa.out.k
 go_enter Tryz.func72, Tryz.ntmps72
 go_wp2_with fail
 clear hwk hG l1 l2
 refine (K.of_any q.ao q.n q.c q.L s _ HQ.out.live HSs.out).mono ?_
 rw [(of_fl HC.out HGd.out).1, (of_fl HC.out HGd.out).2]
 rintro x w1 ⟨a1, n1, c1, rfl, S1, b1, -⟩
 have HB1 := hide b1
 have HS1 := hide S1
 have HQ1 := hide (HQ.out.below b1)
 have HL1 : Hid ((flS q.L s).length = n1) := S1.1
 clear S1 b1
 have l3 := run_ldQs (HX.out.below HB1.out)
 go_wp2_with fail
 clear l3
 refine (isFull_any q a1 n1 c1 (flS q.L s) _ HQ1.out HS1.out HC.out).mono ?_
 rintro x w2 ⟨b, rfl, hb, b2⟩
 have HB2 := hide (HB1.out.trans (b2.mono HB1.out.size))
 have HS2 := hide (HS1.out.below b2)
 have HQ2 := hide (HQ1.out.below b2)
 have HFu := hide hb
 clear hb b2
 cases b with
 | true =>
  have HXn := hide (HXf.out.below HB2.out)
  have tn : (stFa (.pointer (some ⟨G + 2, 0, none⟩)) (.agg (FaC (mkF fc0)))).run Tryz.prog w2 = .ok () (w2.setRow (G + 2) (FaC (mkF fc0))) := run_stFa (m' := mkF fc0) HXn.out
  have HE := hide (give_facts (w := w) (f := fc0) (er := 12) (AddD q.L q.p.P q.r q.ln q.ct s qt) HXn.out (fc0_ok _) (fc0_new _) (HBK.out.trans (HB2.out.mono HBK.out.size)) (by have := HG.out; omega) (.inl ⟨HFu.out.out.1 rfl, fc0_no, rfl⟩))
  go_wp2_with fail
  refine bodyPost_ret (res2Fa rfl rfl rfl HE.out.1) rfl ?_
  exact HE.out.2
 | false =>
  have HNF : Hid (¬ FullF q.L (flS q.L s) q.ln) := fun h => by have := HFu.out.out.2 h; cases this
  have hcS : K.chk (flS q.L s) = 0 := filter_chkE HC.out
  have HCS := hide hcS
  have HTb := hide (ttl_few hcS)
  clear hcS
  go_wp2_with fail
  refine (K.total_any a1 n1 c1 (flS q.L s) _ HS2.out).mono ?_
  rintro x w3 ⟨rfl, b3⟩
  rw [show K.totV (flS q.L s) = K.ttl (flS q.L s) from by unfold K.totV; rw [if_pos HCS.out], HCS.out]
  have HB3 := hide (HB2.out.trans (b3.mono HB2.out.size))
  have HQ3 := hide (HQ2.out.below b3)
  clear b3
  obtain ⟨T, HT⟩ : ∃ T, Hid (K.ttl (flS q.L s) = T) := ⟨_, rfl⟩
  have htb := HTb.out
  have hqt := HQt.out
  rw [HT.out] at htb ⊢
  obtain ⟨-, -, l6⟩ := (HXa.out.below HB3.out).k
  have hw : IntKind.i64.wrap (T + qt) = T + qt := wrap_few (by omega) (by omega)
  by_cases hov : 1000000 < T + qt
  ·have HOv : Hid (1000000 < K.ttl (flS q.L s) + qt) := by show _ < _; rw [HT.out]; exact hov
   clear htb hqt
   have HXn := hide (HXf.out.below HB3.out)
   have tn : (stFa (.pointer (some ⟨G + 2, 0, none⟩)) (.agg (FaC (mkF fc0)))).run Tryz.prog w3 = .ok () (w3.setRow (G + 2) (FaC (mkF fc0))) := run_stFa (m' := mkF fc0) HXn.out
   have HE := hide (give_facts (w := w) (f := fc0) (er := 13) (AddD q.L q.p.P q.r q.ln q.ct s qt) HXn.out (fc0_ok _) (fc0_new _) (HBK.out.trans (HB3.out.mono HBK.out.size)) (by have := HG.out; omega) (.inr (.inl ⟨HNF.out, HOv.out, fc0_no, rfl⟩)))
   go_wp2_with fail
   refine bodyPost_ret (res2Fa rfl rfl rfl HE.out.1) rfl ?_
   exact HE.out.2
  ·have HOv : Hid (¬ 1000000 < K.ttl (flS q.L s) + qt) := by show ¬ _; rw [HT.out]; exact hov
   have l7 := (HX.out.below HB3.out).live
   obtain ⟨l8, -, -⟩ := (HX.out.below HB3.out).rest
   obtain ⟨-, l9, -⟩ := (HXa.out.below HB3.out).k
   clear htb hqt
   go_wp2_with fail
   clear l6 l7 l8 l9 hw hov
   refine (K.own_any q.ao q.n q.c q.L q.r s _ HQ3.out.live HSs.out).mono ?_
   rw [(ow_fl HC.out HR.out HGd.out).1, (ow_fl HC.out HR.out HGd.out).2]
   rintro x w4 ⟨a4, n4, c4, rfl, S4, b4, -⟩
   have HB4 := hide (HB3.out.trans (b4.mono HB3.out.size))
   have HS4 := hide S4
   have HQ4 := hide (HQ3.out.below b4)
   have hcO : K.chk (flO q.L q.r s) = 0 := filter_chkE HC.out
   have HCO := hide hcO
   have HTo := hide (ttl_few hcO)
   clear S4 b4 hcO
   go_wp2_with fail
   refine (K.total_any a4 n4 c4 (flO q.L q.r s) _ HS4.out).mono ?_
   rintro x w5 ⟨rfl, b5⟩
   rw [show K.totV (flO q.L q.r s) = K.ttl (flO q.L q.r s) from by unfold K.totV; rw [if_pos HCO.out], HCO.out]
   have HB5 := hide (HB4.out.trans (b5.mono HB4.out.size))
   have HQ5 := hide (HQ4.out.below b5)
   have HS5 := hide (HS4.out.below b5)
   clear b5
   obtain ⟨U, HU⟩ : ∃ U, Hid (K.ttl (flO q.L q.r s) = U) := ⟨_, rfl⟩
   have hub := HTo.out
   have hqt := HQt.out
   rw [HU.out] at hub ⊢
   have hw : IntKind.i64.wrap (qt + U) = qt + U := wrap_few (by omega) (by omega)
   have lq := run_ldQs (HX.out.below HB5.out)
   obtain ⟨-, l5, l6⟩ := (HXa.out.below HB5.out).k
   clear hub hqt
   go_wp2_with fail
   clear lq l5 l6 hw
   refine (replace_any q a4 n4 c4 (flO q.L q.r s) s (qt + U) _ HQ5.out HS5.out HCO.out HSs.out).mono ?_
   rintro x w6 ⟨f, er, rfl, F1, N1, b6, D1⟩
   rw [← HU.out] at D1
   have HB6 := hide (HB5.out.trans (b6.mono HB5.out.size))
   have hlt : G + 2 < w5.heap.size := (HXf.out.below HB5.out).lt
   clear b6
   have HXn := hide (HXf.out.below HB6.out)
   have tn := run_stFa (m' := mkF f) HXn.out
   have hltn : G + 2 < w5.heap.size := by have := hlt; exact this
   have HE := hide (give_facts (w := w) (f := f) (er := er) (AddD q.L q.p.P q.r q.ln q.ct s qt) HXn.out F1 (N1.mono (by omega)) (HBK.out.trans (HB6.out.mono HBK.out.size)) (by have := HG.out; omega) (.inr (.inr ⟨HNF.out, (by have := HOv.out; omega), D1⟩)))
   clear F1 N1 D1 hltn hlt
   go_wp2_with fail
   refine bodyPost_ret (res2Fa rfl rfl rfl HE.out.1) rfl ?_
   exact HE.out.2
set_option maxRecDepth 100000 in
set_option maxHeartbeats 3200000 in
theorem remove_any (q : Scn) (k : Int) (s : ByteArray) (qt : Int) (a : Pv) (w : World) (hQ : ScnOk w q) (hA : PSrc w a) (hs : s.size ≤ maxLen) (hc : K.chk q.L = 0) (hg : K.good s.data.toList = true) :
  Calls Tryz.prog 73 #[QsV (mkQ q), AcV (mkA k s qt a)] w fun e w' => DeA w w' e (RemD q.L s) := by
 obtain ⟨wk, hwk⟩ : ∃ wk, ((w.alloc (.cells (QsC (mkQ q)) 83)).alloc (.cells (AcC (mkA k s qt a)) 30)).alloc (.cells (FaC (mkF fc0)) 36) = wk := ⟨_, rfl⟩
 obtain ⟨X1, X2, X3, hb, hQ', hA'⟩ := rule_pre q k s qt a w hQ hA hwk
 obtain ⟨G, hG⟩ : ∃ G, w.heap.size = G := ⟨_, rfl⟩
 rw [hG] at X1 X2 X3
 have HX := hide X1
 have HXa := hide X2
 have HXf := hide X3
 have HBK := hide hb
 have HQ := hide hQ'
 have HA := hide hA'
 have HG := hide hG
 have HC := hide hc
 have HSs := hide hs
 have HGd := hide hg
 clear X1 X2 X3 hb hQ' hA' hQ hA hc hs hg
 have l1 := HX.out.live
 obtain ⟨-, l2, -⟩ := HXa.out.k
 go_enter Tryz.func73, Tryz.ntmps73
 go_wp2_with fail
 clear hwk hG l1 l2
 refine (K.of_any q.ao q.n q.c q.L s _ HQ.out.live HSs.out).mono ?_
 rw [(of_fl HC.out HGd.out).1, (of_fl HC.out HGd.out).2]
 rintro x w1 ⟨a1, n1, c1, rfl, S1, b1, -⟩
 have HB1 := hide b1
 have HS1 := hide S1
 have HQ1 := hide (HQ.out.below b1)
 have HL1 : Hid ((flS q.L s).length = n1) := S1.1
 clear S1 b1
 by_cases h0 : n1 = 0
 ·have HN : Hid (flS q.L s = []) := List.length_eq_zero_iff.1 (by rw [HL1.out]; exact h0)
  subst h0
  have HXn := hide (HXf.out.below HB1.out)
  have tn : (stFa (.pointer (some ⟨G + 2, 0, none⟩)) (.agg (FaC (mkF fc0)))).run Tryz.prog w1 = .ok () (w1.setRow (G + 2) (FaC (mkF fc0))) := run_stFa (m' := mkF fc0) HXn.out
  have HE := hide (give_facts (w := w) (f := fc0) (er := 11) (RemD q.L s) HXn.out (fc0_ok _) (fc0_new _) (HBK.out.trans (HB1.out.mono HBK.out.size)) (by have := HG.out; omega) (.inl ⟨HN.out, fc0_no, rfl⟩))
  go_wp2_with fail
  refine bodyPost_ret (res2Fa rfl rfl rfl HE.out.1) rfl ?_
  exact HE.out.2
 ·have h0' : ((n1 : Int) == 0) = false := by simp [h0]
  have h0'' : (n1 == 0) = false := by simp [h0]
  have HN : Hid (flS q.L s ≠ []) := fun h => by have := HL1.out; rw [h] at this; simp at this; omega
  go_wp2_with fail
  refine (dots_any a1 n1 c1 (flS q.L s) _ HS1.out).mono ?_
  rintro x w3 ⟨b3, ⟨-, p, rfl, S3, n3, c3⟩ | ⟨h, -⟩⟩
  rotate_left
  ·exact absurd (filter_chkE HC.out) h
  obtain ⟨g4, hg4⟩ : ∃ g4, w3.heap.size = g4 := ⟨_, rfl⟩
  obtain ⟨w4, hst, X4, B4, -⟩ := madeP w3 p g4 hg4
  have HB4 := hide (HB1.out.trans ((b3.trans (B4.mono b3.size)).mono HB1.out.size))
  have lp := run_ldP X4.at
  have HXn := hide (HXf.out.below HB4.out)
  have tn : (stFa (.pointer (some ⟨G + 2, 0, none⟩)) (.agg #[.slice none 0 0, .slice p.vo p.vn p.vc, .slice p.co p.cn p.cc, .slice none 0 0])).run Tryz.prog w4 = .ok () (w4.setRow (G + 2) (FaC (mkF (fcG none 0 0 [] p)))) := run_stFa (m' := mkF (fcG none 0 0 [] p)) HXn.out
  have hlt : G + 2 < w1.heap.size := (HXf.out.below HB1.out).lt
  have HE := hide (give_facts (w := w) (f := fcG none 0 0 [] p) (er := 0) (RemD q.L s) HXn.out ⟨esrc_none _, S3.below B4, RcS.empty _⟩ ⟨fun ad e => (by cases e), n3.mono (by omega), fun ad e => (by cases e), fun c hc => (by cases hc)⟩ (HBK.out.trans (HB4.out.mono HBK.out.size)) (by have := HG.out; omega) (.inr ⟨HN.out, rfl, rfl, c3, rfl⟩))
  clear S3 n3 b3 c3 X4 B4 hlt
  go_wp2_with fail
  refine bodyPost_ret (res2Fa rfl rfl rfl HE.out.1) rfl ?_
  exact HE.out.2
set_option maxRecDepth 100000 in
set_option maxHeartbeats 3200000 in
theorem clearAll_any (q : Scn) (k : Int) (s : ByteArray) (qt : Int) (a : Pv) (w : World) (hQ : ScnOk w q) (hA : PSrc w a) (hs : s.size ≤ maxLen) (hc : K.chk q.L = 0) :
  Calls Tryz.prog 75 #[QsV (mkQ q), AcV (mkA k s qt a)] w fun e w' => DeA w w' e (GoneD q.L) := by
 obtain ⟨wk, hwk⟩ : ∃ wk, ((w.alloc (.cells (QsC (mkQ q)) 83)).alloc (.cells (AcC (mkA k s qt a)) 30)).alloc (.cells (FaC (mkF fc0)) 36) = wk := ⟨_, rfl⟩
 obtain ⟨X1, X2, X3, hb, hQ', hA'⟩ := rule_pre q k s qt a w hQ hA hwk
 obtain ⟨G, hG⟩ : ∃ G, w.heap.size = G := ⟨_, rfl⟩
 rw [hG] at X1 X2 X3
 have HX := hide X1
 have HXa := hide X2
 have HXf := hide X3
 have HBK := hide hb
 have HQ := hide hQ'
 have HA := hide hA'
 have HG := hide hG
 have HC := hide hc
 have HSs := hide hs
 clear X1 X2 X3 hb hQ' hA' hQ hA hc hs
 have l1 := HX.out.live
 go_enter Tryz.func75, Tryz.ntmps75
 go_wp2_with fail
 clear hwk hG l1
 have HB0 := hide (Below.refl wk.heap.size wk)
 refine (dots_any q.ao q.n q.c q.L _ HQ.out.live).mono ?_
 rintro x w3 ⟨b3, ⟨-, p, rfl, S3, n3, c3⟩ | ⟨h, -⟩⟩
 rotate_left
 ·exact absurd HC.out h
 obtain ⟨g4, hg4⟩ : ∃ g4, w3.heap.size = g4 := ⟨_, rfl⟩
 obtain ⟨w4, hst, X4, B4, -⟩ := madeP w3 p g4 hg4
 have HB4 := hide (HB0.out.trans ((b3.trans (B4.mono b3.size)).mono HB0.out.size))
 have lp := run_ldP X4.at
 have HXn := hide (HXf.out.below HB4.out)
 have tn : (stFa (.pointer (some ⟨G + 2, 0, none⟩)) (.agg #[.slice none 0 0, .slice p.vo p.vn p.vc, .slice p.co p.cn p.cc, .slice none 0 0])).run Tryz.prog w4 = .ok () (w4.setRow (G + 2) (FaC (mkF (fcG none 0 0 [] p)))) := run_stFa (m' := mkF (fcG none 0 0 [] p)) HXn.out
 have hlt : G + 2 < wk.heap.size := HXf.out.lt
 have HE := hide (give_facts (w := w) (f := fcG none 0 0 [] p) (er := 0) (GoneD q.L) HXn.out ⟨esrc_none _, S3.below B4, RcS.empty _⟩ ⟨fun ad e => (by cases e), n3.mono (by omega), fun ad e => (by cases e), fun c hc => (by cases hc)⟩ (HBK.out.trans (HB4.out.mono HBK.out.size)) (by have := HG.out; omega) (⟨rfl, rfl, c3, rfl⟩))
 clear S3 n3 b3 c3 X4 B4 hlt
 go_wp2_with fail
 refine bodyPost_ret (res2Fa rfl rfl rfl HE.out.1) rfl ?_
 exact HE.out.2
set_option maxRecDepth 100000 in
set_option maxHeartbeats 3200000 in
theorem removeTo_any (q : Scn) (k : Int) (s : ByteArray) (qt : Int) (a : Pv) (w : World) (hQ : ScnOk w q) (hA : PSrc w a) (hs : s.size ≤ maxLen) (hc : K.chk q.L = 0) :
  Calls Tryz.prog 74 #[QsV (mkQ q), AcV (mkA k s qt a)] w fun e w' => DeA w w' e (RecD s a.P) := by
 obtain ⟨wk, hwk⟩ : ∃ wk, ((w.alloc (.cells (QsC (mkQ q)) 83)).alloc (.cells (AcC (mkA k s qt a)) 30)).alloc (.cells (FaC (mkF fc0)) 36) = wk := ⟨_, rfl⟩
 obtain ⟨X1, X2, X3, hb, hQ', hA'⟩ := rule_pre q k s qt a w hQ hA hwk
 obtain ⟨G, hG⟩ : ∃ G, w.heap.size = G := ⟨_, rfl⟩
 rw [hG] at X1 X2 X3
 have HX := hide X1
 have HXa := hide X2
 have HXf := hide X3
 have HBK := hide hb
 have HQ := hide hQ'
 have HA := hide hA'
 have HG := hide hG
 have HC := hide hc
 have HSs := hide hs
 clear X1 X2 X3 hb hQ' hA' hQ hA hc hs
 obtain ⟨-, l2, -⟩ := HXa.out.k
 have lp := run_ldP HXa.out.past
 go_enter Tryz.func74, Tryz.ntmps74
 go_wp2_with fail
 clear hwk hG l2 lp
 refine (record_any s a _ HA.out HSs.out).mono ?_
 rintro x w3 ⟨f, rfl, F1, N1, b3, D1⟩
 have HB3 := hide b3
 have hlt : G + 2 < wk.heap.size := HXf.out.lt
 clear b3
 have HXn := hide (HXf.out.below HB3.out)
 have tn := run_stFa (m' := mkF f) HXn.out
 have hltn : G + 2 < wk.heap.size := by have := hlt; exact this
 have HE := hide (give_facts (w := w) (f := f) (er := 0) (RecD s a.P) HXn.out F1 (N1.mono (by omega)) (HBK.out.trans (HB3.out.mono HBK.out.size)) (by have := HG.out; omega) (D1))
 clear F1 N1 D1 hltn hlt
 go_wp2_with fail
 refine bodyPost_ret (res2Fa rfl rfl rfl HE.out.1) rfl ?_
 exact HE.out.2
set_option maxRecDepth 100000 in
set_option maxHeartbeats 3200000 in
theorem clearTo_any (q : Scn) (k : Int) (s : ByteArray) (qt : Int) (a : Pv) (w : World) (hQ : ScnOk w q) (hA : PSrc w a) (hs : s.size ≤ maxLen) (hc : K.chk q.L = 0) :
  Calls Tryz.prog 76 #[QsV (mkQ q), AcV (mkA k s qt a)] w fun e w' => DeA w w' e (RecD ⟨#[]⟩ a.P) := by
 obtain ⟨wk, hwk⟩ : ∃ wk, ((w.alloc (.cells (QsC (mkQ q)) 83)).alloc (.cells (AcC (mkA k s qt a)) 30)).alloc (.cells (FaC (mkF fc0)) 36) = wk := ⟨_, rfl⟩
 obtain ⟨X1, X2, X3, hb, hQ', hA'⟩ := rule_pre q k s qt a w hQ hA hwk
 obtain ⟨G, hG⟩ : ∃ G, w.heap.size = G := ⟨_, rfl⟩
 rw [hG] at X1 X2 X3
 have HX := hide X1
 have HXa := hide X2
 have HXf := hide X3
 have HBK := hide hb
 have HQ := hide hQ'
 have HA := hide hA'
 have HG := hide hG
 have HC := hide hc
 have HSs := hide hs
 clear X1 X2 X3 hb hQ' hA' hQ hA hc hs
 have l2 := HG
 have lp := run_ldP HXa.out.past
 go_enter Tryz.func76, Tryz.ntmps76
 go_wp2_with fail
 clear hwk hG l2 lp
 refine (record_any ⟨#[]⟩ a _ HA.out (by decide)).mono ?_
 rintro x w3 ⟨f, rfl, F1, N1, b3, D1⟩
 have HB3 := hide b3
 have hlt : G + 2 < wk.heap.size := HXf.out.lt
 clear b3
 have HXn := hide (HXf.out.below HB3.out)
 have tn := run_stFa (m' := mkF f) HXn.out
 have hltn : G + 2 < wk.heap.size := by have := hlt; exact this
 have HE := hide (give_facts (w := w) (f := f) (er := 0) (RecD ⟨#[]⟩ a.P) HXn.out F1 (N1.mono (by omega)) (HBK.out.trans (HB3.out.mono HBK.out.size)) (by have := HG.out; omega) (D1))
 clear F1 N1 D1 hltn hlt
 go_wp2_with fail
 refine bodyPost_ret (res2Fa rfl rfl rfl HE.out.1) rfl ?_
 exact HE.out.2
end Go.Proofs.YtmbkmpeongodbaaGreat
