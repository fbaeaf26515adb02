/- Total, Line: their contracts. -/
import Derived.Test.YtmhdhedjeaaciaaLWi
namespace Go.Proofs.Ytmhdhedjeaaciaa
open Go.RowKit
attribute [local go_sem ↓] ld28_eq st28_eq ldL_eq stL_eq
attribute [local go_sem] zero_EC cells_EV EC_size zero_LC cells_LV LC_size

theorem chk_c (L : List En) : chk L = 0 ∨ chk L = 1 := by unfold chk; split <;> simp
/-- the sum of all quantities -/
def ttl : List En → Int
  | [] => 0
  | e :: r => e.qty + ttl r
theorem ttl_append (A B : List En) : ttl (A ++ B) = ttl A + ttl B := by
  induction A with
  | nil => simp [ttl]
  | cons a A ih => simp only [List.cons_append, ttl, ih]; omega
theorem ttl_bd (L : List En) (h : AllOk L) : 0 ≤ ttl L ∧ ttl L ≤ L.length * 1000000 := by
  induction L with
  | nil => simp [ttl]
  | cons a L ih =>
    have h1 := h a (by simp)
    have h2 := ih (fun e he => h e (by simp [he]))
    simp only [ttl, List.length_cons]
    omega
def totV (L : List En) : Int := if chk L = 0 then ttl L else 0
set_option maxRecDepth 100000 in
set_option maxHeartbeats 4000000 in
theorem total_any (ao : Option Addr) (n cap : Nat) (L : List En) (w : World) (hS : ESrc w ao n cap L) :
    Calls Try.prog 15 #[.slice ao n cap] w fun e w' => e = .returned (.tuple #[.int .i64 (totV L), .int .i64 (chk L)]) ∧ Below w.heap.size w w' := by
  have HS := hide hS
  have HL : Hid (L.length = n) := hS.1
  have hn := hS.2.2.2.2
  clear hS
  obtain ⟨v, Hv⟩ : ∃ v, Hid (totV L = v) := ⟨_, rfl⟩
  rw [Hv.out]
  go_enter Try.func15, Try.ntmps15
  go_wp2_with fail
  refine (lcheck_any ao n cap L _ HS.out).mono ?_
  rintro x w1 ⟨rfl, b1⟩
  have B1 := hide b1
  have S1 := hide (HS.out.below b1)
  clear b1
  rcases chk_c L with h | h
  · rw [h]
    have HC := hide h
    have HF : Hid (v = ttl L) := by show _ = _; rw [← Hv.out, totV, if_pos h]
    have HA := hide (chk_all h)
    have hlen := chk_len h
    rw [HL.out] at hlen
    clear h
    go_wp2_with fail
    go_loopw [5, 15] (fun s i wr => ∃ k : Nat, k ≤ n ∧ s = .int .i64 (ttl (L.take k)) ∧ i = .int .i64 k ∧ Hid (Below w1.heap.size w1 wr)) (fun _ i _ => n - (intOf i).toNat)
    case atStart => exact ⟨0, Nat.zero_le _, rfl, rfl, Below.refl _ _⟩
    case round =>
      obtain ⟨k, hk, rfl, rfl, HB⟩ := hrel
      obtain ⟨t, Ht⟩ : ∃ t, Hid (ttl (L.take k) = t) := ⟨_, rfl⟩
      rw [Ht.out]
      by_cases hlt : k < n
      · obtain ⟨ad, rfl, A0⟩ := (S1.out.below HB.out).at k hlt
        have hld := run_ld28 A0
        have htk := take_snoc L k (by rw [HL.out]; exact hlt)
        have hok : AllOk (L.take (k + 1)) := fun x hx => HA.out x (List.mem_of_mem_take hx)
        have hbd := ttl_bd _ hok
        have htl : (L.take (k + 1)).length = k + 1 := by rw [List.length_take, HL.out]; omega
        rw [htl, htk, ttl_append, Ht.out] at hbd
        have HN : Hid (ttl (L.take (k + 1)) = t + (L.getD k en0).qty) := by show _ = _; rw [htk, ttl_append, Ht.out]; simp [ttl]
        obtain ⟨e, He⟩ : ∃ e, Hid (L.getD k en0 = e) := ⟨_, rfl⟩
        rw [He.out] at hld A0 HN hbd
        simp only [ttl] at hbd
        have hw : IntKind.i64.wrap (t + e.qty) = t + e.qty := by rw [IntKind.wrap_i64]; omega
        obtain ⟨wk, hst, X1, B1', Z1⟩ := made wr e wr.heap.size rfl
        have c3 : wk.cell? ⟨wr.heap.size, 3, none⟩ = some (.int .i64 e.qty) := by have h := X1.at.c3; simpa [Addr.add] using h
        have HB2 := hide (HB.out.trans (B1'.mono HB.out.size))
        clear X1 B1' A0 Z1 hok hbd htl htk
        go_wp2_with fail
        go_roundw
        case rel => exact ⟨k + 1, by omega, by rw [HN.out], by go_num, HB2⟩
        case measure => simp [intOf]; omega
      · obtain rfl : k = n := by omega
        have HT2 : Hid (t = v) := by show _ = _; rw [HF.out, ← Ht.out, List.take_of_length_le (by rw [HL.out]; exact Nat.le_refl _)]
        have HW := hide (B1.out.trans (HB.out.mono B1.out.size))
        go_wp2_with fail
        go_ret2
        exact ⟨(by rw [HT2.out, HC.out] <;> rfl), HW.out⟩
  · rw [h]
    have HC := hide h
    have HF : Hid (v = 0) := by show _ = _; rw [← Hv.out, totV, if_neg (by rw [h]; decide)]
    clear h
    go_wp2_with fail
    go_ret2
    exact ⟨(by rw [HF.out, HC.out] <;> rfl), B1.out⟩
def lnV (L : List En) (s : ByteArray) : Ln := if ofE L s = 0 then lineOf L s else ln0
theorem ofE_cases (L : List En) (s : ByteArray) : ofE L s = 0 ∨ ofE L s ≠ 0 := by omega
set_option maxRecDepth 100000 in
set_option maxHeartbeats 4000000 in
theorem line_any (ao : Option Addr) (n cap : Nat) (L : List En) (s : ByteArray) (w : World) (hS : ESrc w ao n cap L) (hs : s.size ≤ maxLen) :
    Calls Try.prog 14 #[.slice ao n cap, .string s] w fun e w' => e = .returned (.tuple #[LV (lnV L s), .int .i64 (ofE L s)]) ∧ Below w.heap.size w w' := by
  have HS := hide hS
  have HSS := hide hs
  have HX0 := hide (lbox_new w 29 ln0)
  have HB0 := hide (below_new w (.cells (LC ln0) 29))
  clear hS hs
  obtain ⟨v, Hv⟩ : ∃ v, Hid (lnV L s = v) := ⟨_, rfl⟩
  rw [Hv.out]
  go_enter Try.func14, Try.ntmps14
  go_wp2_with fail
  obtain ⟨w0, Hw0⟩ : ∃ w0, Hid (w.alloc (.cells (LC ln0) 29) = w0) := ⟨_, rfl⟩
  rw [Hw0.out] at HX0 HB0 ⊢
  refine (of_any ao n cap L s _ (HS.out.below HB0.out) HSS.out).mono ?_
  rintro x w1 ⟨a1, n1, c1, rfl, S1, b1, f1⟩
  have HS1 := hide S1
  have HX1 := hide (HX0.out.below b1)
  have HB1 := hide (HB0.out.trans (b1.mono HB0.out.size))
  clear S1 b1 f1 HX0 HB0 Hw0
  obtain ⟨er, Her⟩ : ∃ er, Hid (ofE L s = er) := ⟨_, rfl⟩
  rw [Her.out]
  by_cases h0 : er = 0
  · subst h0
    have HV : Hid (ofV L s = ofS L s) := by show _ = _; unfold ofV; rw [if_pos Her.out]; rfl
    have HF : Hid (v = lineOf L s) := by show _ = _; rw [← Hv.out, lnV, if_pos Her.out]
    have hck : chk L = 0 := by have h := Her.out; unfold ofE at h; by_cases hc : chk L = 0; exact hc; rw [if_neg hc] at h; omega
    have HA := hide (ofS_ok (chk_all hck) s)
    have hlen : (ofS L s).length ≤ 16000000000 := Nat.le_trans (ofS_len L s) (chk_len hck)
    rw [HV.out] at HS1
    obtain ⟨M, HM⟩ : ∃ M, Hid (ofS L s = M) := ⟨_, rfl⟩
    rw [HM.out] at HS1 HA hlen
    have HFM : Hid (v = M.foldl addL ln0) := by show _ = _; rw [HF.out, lineOf, HM.out]
    have HL : Hid (M.length = n1) := HS1.out.1
    rw [HL.out] at hlen
    clear hck HV HF HM
    go_wp2_with fail
    go_loopw [23] (fun i wr => ∃ k : Nat, k ≤ n1 ∧ i = .int .i64 k ∧ Hid (LBox wr w1.heap.size 29 ((M.take k).foldl addL ln0)) ∧ Hid (Below w1.heap.size w1 wr)) (fun i _ => n1 - (intOf i).toNat)
    case atStart => exact ⟨0, Nat.zero_le _, rfl, lbox_new _ _ _, below_new _ _⟩
    case round =>
      obtain ⟨k, hk, rfl, HX, HB⟩ := hrel
      obtain ⟨acc, Hacc⟩ : ∃ acc, Hid ((M.take k).foldl addL ln0 = acc) := ⟨_, rfl⟩
      rw [Hacc.out] at HX
      by_cases hlt : k < n1
      · obtain ⟨ad, rfl, A0⟩ := (HS1.out.below HB.out).at k hlt
        have hld := run_ld28 A0
        have htk := take_snoc M k (by rw [HL.out]; exact hlt)
        have hok : AllOk (M.take k) := fun x hx => HA.out x (List.mem_of_mem_take hx)
        have hbd := fold_bd _ hok ln0
        have htl : (M.take k).length = k := by rw [List.length_take, HL.out]; omega
        rw [htl, Hacc.out] at hbd
        have hqe := HA.out (M.getD k en0) (by rw [show M.getD k en0 = M[k]'(by rw [HL.out]; exact hlt) by simp [List.getD, HL.out, hlt]]; exact List.getElem_mem _)
        have HN : Hid ((M.take (k + 1)).foldl addL ln0 = addL acc (M.getD k en0)) := by show _ = _; rw [htk, List.foldl_append, Hacc.out]; rfl
        obtain ⟨e, He⟩ : ∃ e, Hid (M.getD k en0 = e) := ⟨_, rfl⟩
        rw [He.out] at hld A0 HN hqe
        simp only [ln0] at hbd
        have HQ : Hid ((0 ≤ acc.qty ∧ acc.qty ≤ 16000000000000000) ∧ (0 ≤ acc.parts ∧ acc.parts ≤ 16000000000) ∧ (1 ≤ e.qty ∧ e.qty ≤ 1000000)) := ⟨by omega, by omega, hqe⟩
        obtain ⟨wk, hst, X1, B1', Z1⟩ := made wr e wr.heap.size rfl
        have lx := run_ld28 X1.at
        have HXk := hide (HX.out.below B1')
        have ll := run_ldL HXk.out.at
        have HB2 := hide (HB.out.trans (B1'.mono HB.out.size))
        clear X1 B1' A0 Z1 hok hbd htl htk hqe
        go_wp2_with fail
        refine (with_any acc e _ HQ.out.1 HQ.out.2.1 HQ.out.2.2).mono ?_
        rintro y w4 ⟨rfl, b4⟩
        have HX4 := hide (HXk.out.below b4)
        have hs4 := run_stL (e' := addL acc e) HX4.out
        have HX5 := hide (HX4.out.setRow (e' := addL acc e))
        have HB5 := hide (below_setRow (cs := LC (addL acc e)) (HB2.out.trans (b4.mono HB2.out.size)) (Nat.le_refl _))
        clear b4 HXk ll lx
        go_wp2_with fail
        go_roundw
        case rel => exact ⟨k + 1, by omega, by go_num, by rw [HN.out]; exact HX5, HB5⟩
        case measure => simp [intOf]; omega
      · obtain rfl : k = n1 := by omega
        have HT2 : Hid (acc = v) := by show _ = _; rw [HFM.out, ← Hacc.out, List.take_of_length_le (by rw [HL.out]; exact Nat.le_refl _)]
        have ll := run_ldL HX.out.at
        have HX2 := hide (HX1.out.below HB.out)
        have hs4 := run_stL (e' := acc) HX2.out
        have HX5 := hide (HX2.out.setRow (e' := acc))
        have HB5 := hide (below_setRow (cs := LC acc) (HB1.out.trans (HB.out.mono HB1.out.size)) (Nat.le_refl w.heap.size))
        go_wp2_with fail
        exact bodyPost_ret (resLE Try.results14 rfl rfl HX5.out) rfl ⟨(by rw [HT2.out, Her.out] <;> rfl), HB5.out⟩
  · have HF : Hid (v = ln0) := by show _ = _; rw [← Hv.out, lnV, if_neg (by rw [Her.out]; exact h0)]
    have he : (er != 0) = true := by simpa using h0
    have hs4 := run_stL (e' := ln0) HX1.out
    have HX5 := hide (HX1.out.setRow (e' := ln0))
    have HB5 := hide (below_setRow (cs := LC ln0) HB1.out (Nat.le_refl w.heap.size))
    clear h0
    go_wp2_with fail
    exact bodyPost_ret (resLE Try.results14 rfl rfl HX5.out) rfl ⟨(by rw [HF.out, Her.out] <;> rfl), HB5.out⟩
end Go.Proofs.Ytmhdhedjeaaciaa
