/- The reference's Line: its contract. -/
import Derived.Test.YtmhdhedjeaaciaaLRr
import Derived.Test.YtmhdhedjeaaciaaLLi
namespace Go.Proofs.Ytmhdhedjeaaciaa
open Go.RowKit
attribute [local go_sem ↓] ld28_eq st28_eq ldL_eq stL_eq
attribute [local go_sem] zero_EC cells_EV EC_size zero_LC cells_LV LC_size

theorem set0_LC' (t : ByteArray) : ((LC ln0).setIfInBounds 0 (.string t)) = LC ⟨t, 0, 0⟩ := rfl
attribute [local go_sem] set0_LC'
theorem below_draw' (w : World) : Below w.heap.size w w.drew := ⟨rfl, rfl, rfl, Nat.le_refl _, fun _ _ => rfl⟩
theorem LBox.setC {w : World} {g : Nat} {T : TypeId} {l y : Ln} (h : LBox w g T l) (j : Nat) (v : Value) (hy : (LC l).setIfInBounds j v = LC y) : LBox (w.setCell ⟨g, j, none⟩ v) g T y ∧ w.frozen? ⟨g, j, none⟩ = false := by
  unfold LBox at h ⊢
  exact ⟨by rw [heap_setCell_same w g j _ T _ h, hy], by simp [World.frozen?, h]⟩
theorem LBox.drew {w : World} {g : Nat} {T : TypeId} {l : Ln} (h : LBox w g T l) : LBox w.drew g T l := h
set_option maxRecDepth 100000 in
set_option maxHeartbeats 8000000 in
theorem refLine_any (ao : Option Addr) (n cap : Nat) (L : List En) (s : ByteArray) (w : World) (hS : ESrc w ao n cap L) (hs : s.size ≤ maxLen) :
    Calls Try.prog 10 #[.slice ao n cap, .string s] w fun e w' => e = .returned (.tuple #[LV (lnV L s), .int .i64 (ofE L s)]) ∧ Below w.heap.size w w' := by
  have HS := hide hS
  have HSS := hide hs
  have HX0 := hide (lbox_new w 29 ln0)
  have HB0 := hide (below_new w (.cells (LC ln0) 29))
  clear hS hs
  obtain ⟨v, Hv⟩ : ∃ v, Hid (lnV L s = v) := ⟨_, rfl⟩
  rw [Hv.out]
  go_enter Try.func10, Try.ntmps10
  go_wp2_with fail
  obtain ⟨w0, Hw0⟩ : ∃ w0, Hid (w.alloc (.cells (LC ln0) 29) = w0) := ⟨_, rfl⟩
  rw [Hw0.out] at HX0 HB0 ⊢
  refine (refOf_any ao n cap L s _ (HS.out.below HB0.out) HSS.out).mono ?_
  rintro x w1 ⟨a1, n1, c1, rfl, S1, b1, f1⟩
  have HS1 := hide S1
  have HX1 := hide (HX0.out.below b1)
  have HB1 := hide (HB0.out.trans (b1.mono HB0.out.size))
  clear S1 b1 f1 HX0 HB0 Hw0
  obtain ⟨er, Her⟩ : ∃ er, Hid (ofE L s = er) := ⟨_, rfl⟩
  rw [Her.out]
  by_cases h0 : er = 0
  · subst h0
    have HV : Hid (ofV L s = ofS L s) := by show _ = _; unfold ofV; rw [if_pos Her.out]; rfl
    have HF : Hid (v = lineOf L s) := by show _ = _; rw [← Hv.out, lnV, if_pos Her.out]
    have hck : chk L = 0 := by have h := Her.out; unfold ofE at h; by_cases hc : chk L = 0; exact hc; rw [if_neg hc] at h; omega
    have HA := hide (ofS_ok (chk_all hck) s)
    have HSM : Hid (∀ e ∈ ofS L s, e.sku = s) := fun e he => (ofS_mem.1 he).2
    have hlen : (ofS L s).length ≤ 16000000000 := Nat.le_trans (ofS_len L s) (chk_len hck)
    rw [HV.out] at HS1
    obtain ⟨M, HM⟩ : ∃ M, Hid (ofS L s = M) := ⟨_, rfl⟩
    rw [HM.out] at HS1 HA hlen HSM
    have HFM : Hid (v = M.foldl addL ln0) := by show _ = _; rw [HF.out, lineOf, HM.out]
    have HL : Hid (M.length = n1) := HS1.out.1
    rw [HL.out] at hlen
    clear hck HV HF HM
    by_cases hn1 : n1 = 0
    · subst hn1
      have HF0 : Hid (v = ln0) := by show _ = _; rw [HFM.out, List.eq_nil_of_length_eq_zero HL.out]; rfl
      have hs4 := run_stL (e' := ln0) HX1.out
      have HX5 := hide (HX1.out.setRow (e' := ln0))
      have HB5 := hide (below_setRow (cs := LC ln0) HB1.out (Nat.le_refl w.heap.size))
      go_wp2_with fail
      exact bodyPost_ret (resLE Try.results10 rfl rfl HX5.out) rfl ⟨(by rw [HF0.out, Her.out] <;> rfl), HB5.out⟩
    · have hnz : ((n1 : Int) == 0) = false := by simp; exact hn1
      obtain ⟨w2, hst2, X2, B2, Z2⟩ := madeL w1 ⟨s, 0, 0⟩ w1.heap.size rfl
      have HX2 := hide X2
      have HB2 := hide B2
      clear X2 B2 Z2
      go_wp2_with fail
      clear hst2
      go_loopw [9] (fun i wr => ∃ k : Nat, k ≤ n1 ∧ i = .int .i64 k ∧ Hid (LBox wr w1.heap.size 29 ⟨s, ((M.take k).foldl addL ln0).qty, ((M.take k).foldl addL ln0).parts⟩) ∧ Hid (Below w1.heap.size w1 wr)) (fun i _ => n1 - (intOf i).toNat)
      case atStart => exact ⟨0, Nat.zero_le _, rfl, HX2, HB2⟩
      case round =>
        obtain ⟨k, hk, rfl, HX, HB⟩ := hrel
        obtain ⟨acc, Hacc⟩ : ∃ acc, Hid ((M.take k).foldl addL ln0 = acc) := ⟨_, rfl⟩
        rw [Hacc.out] at HX
        by_cases hlt : k < n1
        · obtain ⟨ad, rfl, A0⟩ := (HS1.out.below HB.out).at k hlt
          have htk := take_snoc M k (by rw [HL.out]; exact hlt)
          have hok : AllOk (M.take k) := fun x hx => HA.out x (List.mem_of_mem_take hx)
          have hbd := fold_bd _ hok ln0
          have htl : (M.take k).length = k := by rw [List.length_take, HL.out]; omega
          rw [htl, Hacc.out] at hbd
          have hqe := HA.out (M.getD k en0) (getD_mem M k (by rw [HL.out]; exact hlt))
          have HN : Hid ((M.take (k + 1)).foldl addL ln0 = addL acc (M.getD k en0)) := by show _ = _; rw [htk, List.foldl_append, Hacc.out]; rfl
          obtain ⟨e, He⟩ : ∃ e, Hid (M.getD k en0 = e) := ⟨_, rfl⟩
          rw [He.out] at A0 HN hqe
          simp only [ln0] at hbd
          have HA0 := hide A0
          have X7 := (HX.out.drew).setC (y := ⟨s, acc.qty + e.qty, acc.parts⟩) 1 (.int .i64 (acc.qty + e.qty)) rfl
          have hc1 : wr.cell? ⟨w1.heap.size, 1, none⟩ = some (.int .i64 acc.qty) := by have h := HX.out.at.c1; simpa [Addr.add] using h
          have HC1 := hide hc1
          have HF7 := hide X7.2
          have HX7 := hide X7.1
          have hwp : IntKind.i64.wrap (acc.parts + 1) = acc.parts + 1 := by rw [IntKind.wrap_i64]; omega
          have HWQ : Hid (IntKind.i64.wrap (acc.qty + e.qty) = acc.qty + e.qty) := by show _ = _; rw [IntKind.wrap_i64]; omega
          clear A0 hok hbd htl htk hqe X7 hc1
          go_wp2_with fail
          refine region8 w1.heap.size n1 c1 k ad acc.qty e.qty (acc.qty + e.qty) _ _ _ _ _ _ _ _ _ _ _ _ _ _ _ _ _ _ _ _ _ _ _ _ _ _ _ _ _ _ _ _ _ _ _ _ _ _ _ _ _ _ _ _ _ hlt (by omega) HA0.out.spot HC1.out HF7.out HA0.out.f3 HWQ.out ?_
          have HB7 : Hid (Below w1.heap.size w1 (wr.drew.setCell ⟨w1.heap.size, 1, none⟩ (.int .i64 (acc.qty + e.qty)))) := (HB.out.trans ((below_draw' wr).mono HB.out.size)).setCell (Nat.le_refl _) _
          obtain ⟨w7, Hw7⟩ : ∃ w7, Hid (wr.drew.setCell ⟨w1.heap.size, 1, none⟩ (.int .i64 (acc.qty + e.qty)) = w7) := ⟨_, rfl⟩
          rw [Hw7.out] at HX7 HB7 ⊢
          have X8 := HX7.out.setC (y := ⟨s, acc.qty + e.qty, acc.parts + 1⟩) 2 (.int .i64 (acc.parts + 1)) rfl
          have c8 : w7.cell? ⟨w1.heap.size, 2, none⟩ = some (.int .i64 acc.parts) := by have h := HX7.out.at.c2; simpa [Addr.add] using h
          have f8 := X8.2
          have HX8 := hide X8.1
          have HB8 : Hid (Below w1.heap.size w1 (w7.setCell ⟨w1.heap.size, 2, none⟩ (.int .i64 (acc.parts + 1)))) := HB7.out.setCell (Nat.le_refl _) _
          clear X8 Hw7
          go_wp2_with fail
          go_roundw
          case rel => exact ⟨k + 1, by omega, by go_num, by rw [HN.out]; exact HX8, HB8⟩
          case measure => simp [intOf]; omega
        · obtain rfl : k = n1 := by omega
          have htk : M.take k = M := List.take_of_length_le (by rw [HL.out]; exact Nat.le_refl _)
          have hsk : (M.foldl addL ln0).sku = s := fold_sku M s HSM.out ln0 (fun h => by rw [h] at HL; exact hn1 HL.out.symm)
          have hac : acc = v := by rw [HFM.out, ← Hacc.out, htk]
          rw [← HFM.out] at hsk
          subst hac
          have hxx : (⟨s, acc.qty, acc.parts⟩ : Ln) = acc := by rw [← hsk]
          rw [hxx] at HX
          have ll := run_ldL HX.out.at
          have HX2' := hide (HX1.out.below HB.out)
          have hs4 := run_stL (e' := acc) HX2'.out
          have HX5 := hide (HX2'.out.setRow (e' := acc))
          have HB5 := hide (below_setRow (cs := LC acc) (HB1.out.trans (HB.out.mono HB1.out.size)) (Nat.le_refl w.heap.size))
          clear htk hsk hxx hnz
          go_wp2_with fail
          exact bodyPost_ret (resLE Try.results10 rfl rfl HX5.out) rfl ⟨(by rw [Her.out] <;> rfl), HB5.out⟩
  · have HF : Hid (v = ln0) := by show _ = _; rw [← Hv.out, lnV, if_neg (by rw [Her.out]; exact h0)]
    have he : (er != 0) = true := by simpa using h0
    have hs4 := run_stL (e' := ln0) HX1.out
    have HX5 := hide (HX1.out.setRow (e' := ln0))
    have HB5 := hide (below_setRow (cs := LC ln0) HB1.out (Nat.le_refl w.heap.size))
    clear h0
    go_wp2_with fail
    exact bodyPost_ret (resLE Try.results10 rfl rfl HX5.out) rfl ⟨(by rw [HF.out, Her.out] <;> rfl), HB5.out⟩
end Go.Proofs.Ytmhdhedjeaaciaa
