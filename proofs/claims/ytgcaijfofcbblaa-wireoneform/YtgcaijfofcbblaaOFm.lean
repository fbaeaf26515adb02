/- WireOneForm: the law. -/
import Derived.Test.YtgcaijfofcbblaaOFc
import Derived.Test.YtgcaijfofcbblaaUWn
import Derived.Laws.MakeOwn
import Derived.Deep.DeepCutAuto
namespace Go.Proofs.Ytgcaijfofcbblaa
open Go.RowKit
variable {w w' w2 : World}

theorem src_five (w : World) : Src (w.alloc (.cells #[.int .u8 128, .int .u8 148, .int .u8 235, .int .u8 220, .int .u8 3] 5)) (some ⟨w.heap.size, 0, none⟩) 5 5 [128, 148, 235, 220, 3] := by
  have h1 := heap_alloc_new w (.cells #[.int .u8 128, .int .u8 148, .int .u8 235, .int .u8 220, .int .u8 3] 5)
  generalize w.alloc (.cells #[.int .u8 128, .int .u8 148, .int .u8 235, .int .u8 220, .int .u8 3] 5) = w1 at h1 ⊢
  refine ⟨rfl, fun h => (by cases h), fun ad ha i hi => ?_, fun t => ?_⟩
  · obtain rfl := Option.some.inj ha
    match i, hi with
    | 0, _ => rw [Addr.add_lit]; simp [World.cell?, h1]
    | 1, _ => rw [Addr.add_lit]; simp [World.cell?, h1]
    | 2, _ => rw [Addr.add_lit]; simp [World.cell?, h1]
    | 3, _ => rw [Addr.add_lit]; simp [World.cell?, h1]
    | 4, _ => rw [Addr.add_lit]; simp [World.cell?, h1]
  · match t with
    | 0 => decide
    | 1 => decide
    | 2 => decide
    | 3 => decide
    | 4 => decide
    | t + 5 => simp
theorem make_row (w : World) (c : Nat) (h : c ≤ 281474976710656) : ∃ o : Obj, (Instr.makeSlice 23 (.int .i64 0) (.int .i64 (c : Int))).run Try.prog w = .ok (.slice (some ⟨w.heap.size, 0, none⟩) 0 c) (w.alloc o) ∧ BR (w.alloc o) (some ⟨w.heap.size, 0, none⟩) 0 c [] := by
  obtain ⟨i, hi, hz, hs, hb⟩ : ∃ i, Try.prog.info? 5 = some i ∧ i.zero = some (.int .u8 0) ∧ i.size = 1 ∧ i.bytes = 1 := by
    have := infoB
    cases hx : Try.prog.info? 5 with
    | none => rw [hx] at this; simp at this
    | some i => rw [hx] at this; simp at this; exact ⟨i, rfl, this.1, this.2.1, this.2.2⟩
  have hr := run_make (P := Try.prog) w 23 5 i _ Try.underlying23 hi hz .i64 .i64 0 c (Int.le_refl _) (by omega) (by rw [hb]; omega) (by omega)
  simp only [Int.toNat_zero, Int.toNat_natCast] at hr
  exact ⟨_, hr, World.ownsRow_made w _ c (Nat.zero_le _) (by simp [maxLen]; omega) (by rw [size_madeCells, hs])⟩
theorem BR.atB {ao : Option Addr} {n c : Nat} {Z : List Int} (h : BR w ao n c Z) (j : Nat) (hj : j < n) : ∃ b, ao = some ⟨b, 0, none⟩ ∧ w.cell? ⟨b, j, none⟩ = some (.int .u8 (Z.getD j 0)) ∧ w.frozen? ⟨b, j, none⟩ = false := by
  have hl := h.len
  rcases h.2 with ⟨h0, h00⟩ | ⟨q, cap2, cur, hv, hq, hh, r⟩
  · omega
  · simp only [Value.slice.injEq, true_and] at hv
    obtain ⟨rfl, rfl⟩ := hv
    refine ⟨q, rfl, ?_, by simp [World.frozen?, hh]⟩
    have := World.ownsRow.cellAt h j (by omega)
    rw [bcs_at Z j (by omega)] at this
    exact this
theorem BR.set {b n c : Nat} {Z : List Int} (h : BR w (some ⟨b, 0, none⟩) n c Z) (j : Nat) (x : Int) : BR (w.setCell ⟨b, j, none⟩ (.int .u8 x)) (some ⟨b, 0, none⟩) n c (Z.set j x) := by
  have e : bcs (Z.set j x) = (bcs Z).set j (.int .u8 x) := by unfold bcs; rw [List.map_set]
  have hl := h.1
  refine ⟨by rw [e, List.length_set]; exact hl, ?_⟩
  rcases h.2 with ⟨h0, h00⟩ | ⟨q, cap2, cur, hv, hq, hh, hnc, hcm, hcs, ht⟩
  · cases h0
  · simp only [Value.slice.injEq, Option.some.injEq, Addr.mk.injEq, and_true, true_and] at hv
    obtain ⟨rfl, rfl⟩ := hv
    refine Or.inr ⟨b, c, cur.setIfInBounds j (.int .u8 x), rfl, hq, ?_, hnc, hcm, by rw [Array.size_setIfInBounds]; exact hcs, ?_⟩
    · simp [World.setCell, hh, Array.getElem?_modify, Array.setIfInBounds]
    · rw [Array.toList_setIfInBounds, List.take_set, ht, e]
theorem conv_bc (w : World) (s : ByteArray) : ∃ (w' : World) (c : Nat), (convert 9 23 (.string s)).run Try.prog w = .ok (.slice (some ⟨w.heap.size, 0, none⟩) s.size c) w' ∧ BS w' (some ⟨w.heap.size, 0, none⟩) s.size c (strB s) ∧ Below w.heap.size w w' ∧ w'.heap.size = w.heap.size + 1 ∧ s.size ≤ c := by
  refine ⟨Lib.bytesWorld w 5 s, _, Lib.run_convert_string_bytes w 9 23 5 s Try.underlying9 Try.underlying23 Try.underlying5, ⟨strB_length s, (fun h => by cases h), fun ad ha t ht => ?_⟩, ⟨rfl, rfl, rfl, by rw [Lib.bytesWorld_size]; omega, fun k hk => Lib.bytesWorld_at_old w _ s k hk⟩, Lib.bytesWorld_size w _ s, ?_⟩
  · obtain rfl := Option.some.inj ha
    rw [Addr.add_lit, Nat.zero_add, Lib.bytesWorld_cell w _ s t ht, strB_at s t ht]
  · exact grownCap_ge _ _ _ _
theorem set_all {w1 : World} {gn N : Nat} {x y : Value} {b1 : Option Addr} {n c1 : Nat} {Z : List Int} (V : Var w1 gn x 3) (B : BR w1 b1 n c1 Z) (hne : ∀ k, blk b1 = some k → k ≠ gn) (hW : Below N w w1) (hg : N ≤ gn) :
    Var (w1.setCell ⟨gn, 0, none⟩ y) gn y 3 ∧ BR (w1.setCell ⟨gn, 0, none⟩ y) b1 n c1 Z ∧ Below N w (w1.setCell ⟨gn, 0, none⟩ y) :=
  ⟨set_heap w1 gn _ _ _ 0 y V, B.keep fun k e => set_other w1 gn 0 k y (hne k e), ⟨(setCell_os _ _ _).trans hW.os, (setCell_tape _ _ _).trans hW.tape, (setCell_output _ _ _).trans hW.output, by rw [set_size]; exact hW.size, fun k hk => (set_other w1 gn 0 k y (by omega)).trans (hW.block k hk)⟩⟩
set_option maxRecDepth 100000 in
set_option maxHeartbeats 4000000 in
theorem wireOneForm_any (bo : Option Addr) (n c : Nat) (Z : List Int) (a : Int) (w : World) (S : Src w bo n c Z) (hc : n ≤ c) (hn : n ≤ 140737488351232) (ha : -9223372036854775808 ≤ a ∧ a ≤ 9223372036854775807) :
    Calls Try.prog 4 #[.slice bo n c, .int .i64 a] w fun r w' => r = .returned (.bool true) ∧ Below w.heap.size w w' := by
  have HS := hide S
  have HN : Hid (n ≤ c ∧ n ≤ 140737488351232) := ⟨hc, hn⟩
  have HO : Hid (∀ t, 0 ≤ Z.getD t 0 ∧ Z.getD t 0 ≤ 255) := S.2.2.2
  have hN := num_any _ 5 5 _ 0 _ (src_five w) (by decide) (by decide)
  rw [numA_one] at hN
  have HC := hide hN
  have HZ : Hid (∀ W : World, Calls Try.prog 11 #[.int .i64 1000000000] W fun e w' => e = .returned (.int .i64 5) ∧ w' = W) := fun W => by have := size_any 1000000000 W (by decide); rw [szI_one] at this; exact this
  obtain ⟨m9, hm9⟩ : ∃ m9, n + 9 = m9 := ⟨_, rfl⟩
  have hnn : wrap64 ((n : Int) + 9) = (m9 : Int) := by rw [w64 (by omega) (by omega)]; omega
  have HM9 := hide hm9
  clear S hc hn hN hm9
  go_enter Try.func4, Try.ntmps4
  go_wp2_with fail
  refine HC.out.mono ?_
  rintro r w1 ⟨rfl, rfl⟩
  unfold p3
  go_wp2_with fail
  refine (HZ.out _).mono ?_
  rintro r w1 ⟨rfl, rfl⟩
  have b1 := below_new w (.cells #[.int .u8 128, .int .u8 148, .int .u8 235, .int .u8 220, .int .u8 3] 5)
  have s1 := World.size_alloc w (.cells #[.int .u8 128, .int .u8 148, .int .u8 235, .int .u8 220, .int .u8 3] 5)
  generalize w.alloc (.cells #[.int .u8 128, .int .u8 148, .int .u8 235, .int .u8 220, .int .u8 3] 5) = wl at b1 s1 ⊢
  have b2 := below_new wl (.cells #[.int .i64 1000000000] 3)
  have v2 : Var (wl.alloc (.cells #[.int .i64 1000000000] 3)) wl.heap.size (.int .i64 1000000000) 3 := heap_alloc_new wl _
  have s2 := World.size_alloc wl (.cells #[.int .i64 1000000000] 3)
  obtain ⟨gn, hgn⟩ : ∃ gn, w.heap.size + 1 = gn := ⟨_, rfl⟩
  rw [s1, hgn] at v2
  rw [hgn]
  generalize wl.alloc (.cells #[.int .i64 1000000000] 3) = wb at b2 v2 s2 ⊢
  have HBb := hide (b1.trans (b2.mono b1.size))
  have HG : Hid (w.heap.size + 1 = gn) := hgn
  have HV := hide v2
  obtain ⟨o, hmk, B0⟩ := make_row wb m9 (by have := HN.out.2; have := HM9.out; omega)
  have HB0 := hide B0
  have bo1 := below_new wb o
  have HS0 := hide ((HS.out.below HBb.out).below bo1)
  have HN0 : Hid (0 + n ≤ 140737488355328) := by show _ ≤ _; have := HN.out.2; omega
  have HN1 : Hid (w.heap.size < wb.heap.size) := by show _ < _; omega
  clear b1 s1 b2 v2 s2 hgn HZ HC B0 bo1 wl
  go_wp2_with (at_builtin; refine HB0.out.appB HS0.out.bs HN0.out rfl (.tmp 40) (.tmp 41) rfl rfl rfl ?_; intro b1 c1 w1 B1 A1; rw [Nat.zero_add] at B1 ⊢; rw [List.nil_append] at B1; have hs1 := B1.bs.str; have HB1 := hide B1; have HA1 := hide A1.fresh; clear B1 A1)
  have HW1 := hide (HBb.out.trans (HA1.out.1.mono HBb.out.size))
  have HV1 : Hid (Var w1 gn (.int .i64 1000000000) 3) := (HA1.out.1.block gn HV.out.lt).trans HV.out
  have HNe : Hid (∀ k, blk b1 = some k → k ≠ gn ∧ w.heap.size ≤ k) := fun k e => by
    have h1 := HA1.out.2 k e
    have h2 := HG.out
    have h3 := HN1.out
    have h4 := HV.out.lt
    exact ⟨by omega, by omega⟩
  have HS1 : Hid (Src w1 b1 n c1 Z) := ⟨HB1.out.bs.len, HB1.out.bs.nil, HB1.out.bs.cell, HO.out⟩
  have HC1 := hide (num_any b1 n c1 Z a w1 HS1.out HB1.out.cap (by have := HN.out.2; omega))
  have x1 := HV1.out.c
  have x2 := HV1.out.z
  clear hmk hnn HV HN1 HA1 HS0 HB0 HN0
  refine HC1.out.mono ?_
  rintro r w2 ⟨rfl, e2⟩
  obtain rfl := e2.symm
  rcases num_cases Z HO.out a with ⟨e, hN, he, hE⟩ | ⟨k, v, rfl, hN, hD, hv, hl⟩
  · rw [hN]
    unfold p3
    have hz : (e != 0) = true := by simpa using he
    rw [HS1.out.1] at hE
    obtain ⟨V2, B2, W2⟩ := set_all (y := .int .i64 0) HV1.out HB1.out (fun k e => (HNe.out k e).1) HW1.out (by have := HG.out; omega)
    have hs2 := B2.bs.str
    have y1 := V2.c
    have HW2 := hide W2
    clear V2 B2 W2 he hN HC1 hs1
    by_cases h0 : a < 0
    · have h1 : (e == 2) = true := by rw [hE]; simp [h0]
      clear hE
      go_wp2_with fail
      go_ret
      exact ⟨rfl, HW2.out⟩
    · by_cases h2 : (n : Int) < a
      · have h1 : (e == 2) = true := by rw [hE]; simp [h2]
        clear hE
        go_wp2_with fail
        go_ret
        exact ⟨rfl, HW2.out⟩
      · have h1 : (e == 2) = false := by rw [hE]; simp; omega
        have d0 : decide (a < 0) = false := by simpa using h0
        have d2 : decide ((n : Int) < a) = false := by simpa using h2
        clear hE
        go_wp2_with fail
        go_ret
        exact ⟨rfl, HW2.out⟩
  · rw [hN]
    unfold p3
    obtain ⟨V2, B2, W2⟩ := set_all (y := .int .i64 (v : Int)) HV1.out HB1.out (fun k e => (HNe.out k e).1) HW1.out (by have := HG.out; omega)
    have hs2 := B2.bs.str
    have y1 := V2.c
    have HW2 := hide W2
    have HV2 := hide V2
    have HB2 := hide B2
    clear V2 B2 W2 hN HC1 hs1
    rw [HS1.out.1] at hl
    obtain ⟨q, hq⟩ : ∃ q, (numB v).length = q := ⟨_, rfl⟩
    obtain ⟨j, hj⟩ : ∃ j, k + q = j := ⟨_, rfl⟩
    have hq0 : 0 < q := by rw [← hq]; exact numB_pos v
    rw [hq, hj] at hD hl ⊢
    have hw2 : wrap64 ((j : Int) - (k : Int)) = (q : Int) := by have := HN.out.2; rw [w64 (by omega) (by omega)]; omega
    have hjk : k < j := by omega
    have hjn : j ≤ n := by omega
    have hjk2 : (k : Int) < j := by omega
    have hjn2 : (j : Int) ≤ n := by omega
    have HSz : Hid (∀ W : World, Calls Try.prog 11 #[.int .i64 (v : Int)] W fun e w' => e = .returned (.int .i64 (q : Int)) ∧ w' = W) := fun W => by have := size_numB v W hv; rw [hq] at this; exact this
    have HQ : Hid ((numB v).length = q ∧ k + q = j ∧ 0 < q ∧ j ≤ n ∧ v ≤ 9223372036854775807) := ⟨hq, hj, hq0, hl, hv⟩
    have HD := hide hD
    clear hD hq hj hl
    go_wp2_with fail
    refine (HSz.out _).mono ?_
    rintro r w2 ⟨rfl, e3⟩
    subst e3
    generalize w1.setCell ⟨gn, 0, none⟩ (.int .i64 (v : Int)) = w2 at HW2 HV2 HB2 hs2 y1 ⊢
    have HC3 := hide (new_any w2)
    have HK3 := hide (wk_new w2)
    have b3 := below_new w2 (.cells #[.slice none 0 0, .bool false] 54)
    clear HSz HV1 HB1 HW1 HS1 x1 x2 hs2 y1 e2 hq0 hv
    go_wp2_with fail
    refine HC3.out.mono ?_
    rintro r w3 ⟨rfl, rfl⟩
    have HC4 := hide (wnum_any _ _ _ _ false v _ HK3.out.w (fun h => by cases h) HQ.out.2.2.2.2 (by decide))
    have y3 := (show Var (w2.alloc (.cells #[.slice none 0 0, .bool false] 54)) gn (.int .i64 (v : Int)) 3 from (b3.block gn HV2.out.lt).trans HV2.out).c
    clear b3 HC3
    go_wp2_with fail
    refine HC4.out.mono ?_
    rintro r w4 ⟨rfl, hP⟩
    obtain ⟨a4, n4, c4, hk4⟩ := HK3.out.put hP
    have hn4 := hk4.len
    rw [List.nil_append, HQ.out.1] at hn4
    subst hn4
    have HC5 := hide (done_ok a4 q c4 _ w4 hk4.w (by have := HQ.out; have := HN.out.2; omega))
    have HW4 := hide hk4.bel
    clear hP hk4 HC4 HK3 y3
    go_wp2_with fail
    refine HC5.out.mono ?_
    rintro r w5 ⟨b5, c5, rfl, B5, N5⟩
    have HW5 := hide (HW4.out.trans (N5.1.mono HW4.out.size))
    rw [List.nil_append] at B5
    have hs5 : ∀ i, (convert 23 9 (.slice b5 q c5)).run Try.prog (w5.drewN i) = .ok (.string (strOfNums (numB v))) (w5.drewN i) := fun i => (B5.bs.below (below_drewN w5 i)).str
    have hsz : (strOfNums Z).size = n := by rw [str_size]; exact HS.out.1
    have hx5 : (strOfNums Z).extract k j = strOfNums (numB v) := by
      have h := HQ.out
      rw [str_ext, HD.out, show j - k = (numB v).length by omega, List.take_left]
    clear B5 N5 HC5
    go_wp2_with fail
    go_quiet (fail)
    have bq := below_drewN w5 nq
    have HW6 := hide (HW2.out.trans ((HW5.out.trans (bq.mono HW5.out.size)).mono HW2.out.size))
    have HB6 := hide ((HB2.out.below HW5.out).below bq)
    have HV6 : Hid (Var (w5.drewN nq) gn (.int .i64 (v : Int)) 3) := ((HW5.out.trans (bq.mono HW5.out.size)).block gn HV2.out.lt).trans HV2.out
    clear bq hs5 HW5 HW4 HB2 HV2 HW2
    generalize w5.drewN nq = w6 at HW6 HB6 HV6 ⊢
    obtain ⟨bb, rfl, -⟩ := HB6.out.atB k (by omega)
    go_wp2_with fail
    go_loopw [12] (fun i wr => ∃ t : Nat, k ≤ t ∧ t ≤ j ∧ i = .int .i64 t ∧ Hid (BR wr (some ⟨bb, 0, none⟩) n c1 (zeros Z k t)) ∧ Hid (Var wr gn (.int .i64 (v : Int)) 3) ∧ Hid (Below w.heap.size w wr)) (fun i _ => j - (intOf i).toNat)
    case atStart => exact ⟨k, Nat.le_refl _, by omega, rfl, by rw [zeros_self]; exact HB6, HV6, HW6⟩
    case round =>
      obtain ⟨t, ht1, ht2, rfl, HBr, HVr, HWr⟩ := hrel
      clear HB6 HV6 HW6
      by_cases hlt : t < j
      · obtain ⟨b', hb', z1, z2⟩ := HBr.out.atB t (by omega)
        obtain rfl : bb = b' := by cases hb'; rfl
        have htn : t < n := by omega
        have HT1 : Hid (wrap64 ((t : Int) + 1) = ((t + 1 : Nat) : Int)) := by show _ = _; have := HN.out.2; rw [w64 (by omega) (by omega)]; rfl
        have hgb := HNe.out bb rfl
        have HB7 := hide (HBr.out.set t 0)
        have HV7 : Hid (Var (wr.setCell ⟨bb, t, none⟩ (.int .u8 0)) gn (.int .i64 (v : Int)) 3) := (set_other wr bb t gn _ (Ne.symm hgb.1)).trans HVr.out
        have HW7 : Hid (Below w.heap.size w (wr.setCell ⟨bb, t, none⟩ (.int .u8 0))) := by
          have h := HWr.out
          exact ⟨(setCell_os _ _ _).trans h.os, (setCell_tape _ _ _).trans h.tape, (setCell_output _ _ _).trans h.output, by rw [set_size]; exact h.size, fun i hi => (set_other wr bb t i _ (by have := hgb.2; omega)).trans (h.block i hi)⟩
        clear HBr HVr HWr hgb hb'
        go_wp2_with fail
        go_roundw
        case rel => exact ⟨t + 1, by omega, by omega, by rw [HT1.out], by rw [← zeros_succ Z k t ht1 (by rw [HS.out.1]; omega)]; exact HB7, HV7, HW7⟩
        case measure => rw [HT1.out]; simp [intOf]; omega
      · obtain rfl : t = j := by omega
        have HSr : Hid (Src wr (some ⟨bb, 0, none⟩) n c1 (zeros Z k t)) := ⟨HBr.out.bs.len, HBr.out.bs.nil, HBr.out.bs.cell, zeros_oct Z HO.out k t (by omega) (by rw [HS.out.1]; omega)⟩
        have hNz := num_any _ n c1 _ (k : Int) wr HSr.out HBr.out.cap (by have := HN.out.2; omega)
        rw [numA_zeros Z k t hjk (by rw [HS.out.1]; exact hjn)] at hNz
        have HC8 := hide hNz
        have hk1 : wrap64 ((k : Int) + 1) = ((k + 1 : Nat) : Int) := by have := HN.out.2; rw [w64 (by omega) (by omega)]; rfl
        obtain ⟨k1, hk1'⟩ : ∃ k1, k + 1 = k1 := ⟨_, rfl⟩
        rw [hk1'] at hk1 HC8
        have hcc := HBr.out.cap
        have hkn : k ≤ n := by omega
        have hs8 : ∀ i, (convert 23 9 (.slice (some ⟨bb, 0, none⟩) k c1)).run Try.prog (wr.drewN i) = .ok (.string (strOfNums (Z.take k))) (wr.drewN i) := fun i => by
          have := (((HSr.out.take k hkn).bs).below (below_drewN wr i)).str
          rw [zeros_take Z k t (by rw [HS.out.1]; exact hkn)] at this
          exact this
        have hx8 : (strOfNums Z).extract 0 k = strOfNums (Z.take k) := by rw [str_ext]; rfl
        have hx9 : (strOfNums Z).extract t n = strOfNums (Z.drop t) := by rw [str_ext, List.take_of_length_le (by rw [List.length_drop, HS.out.1]; exact Nat.le_refl _)]
        obtain ⟨a9, c9, hcases, S9, -⟩ := HSr.out.sub t hjn hcc
        rw [zeros_drop Z k t (by omega) (by rw [HS.out.1]; exact hjn)] at S9
        have hs9 : ∀ i, (convert 23 9 (.slice a9 (n - t) c9)).run Try.prog (wr.drewN i) = .ok (.string (strOfNums (Z.drop t))) (wr.drewN i) := fun i => ((S9.bs).below (below_drewN wr i)).str
        clear S9 hNz hk1' hlt ht2
        go_wp2_with fail
        refine HC8.out.mono ?_
        rintro r w8 ⟨rfl, e8⟩
        subst e8
        unfold p3
        by_cases hct : c1 = t
        · obtain ⟨rfl, rfl⟩ : a9 = some ⟨bb, 0, none⟩ ∧ c9 = 0 := by
            rcases hcases with ⟨x, -⟩ | ⟨ad, x, y, z, z2⟩ | ⟨ad, x, y, z, z2⟩
            · cases x
            · cases x
              exact ⟨z, z2⟩
            · exact absurd hct y
          clear hcases
          subst hct
          obtain rfl : c1 = n := by omega
          rw [Nat.sub_self, ← hx9] at hs9
          clear hx9
          go_wp2_with fail
          go_quiet (fail)
          have bq := below_drewN w8 nq
          have HW9 := hide (HWr.out.trans (bq.mono HWr.out.size))
          have HV9 : Hid (Var (w8.drewN nq) gn (.int .i64 (v : Int)) 3) := (bq.block gn HVr.out.lt).trans HVr.out
          clear bq hs8 hs9 HBr HVr HWr HSr HC8 hx5 hx8 hk1 hw2
          generalize w8.drewN nq = w9 at HW9 HV9 ⊢
          obtain ⟨wA, cA, hcv, SA, bA, zA, hcA⟩ := conv_bc w9 (strOfNums Z)
          rw [hsz] at hcv SA hcA
          rw [strB_nums Z HO.out] at SA
          obtain ⟨gb, hgb⟩ : ∃ gb, w9.heap.size = gb := ⟨_, rfl⟩
          rw [hgb] at hcv SA zA
          have bM := below_new wA (.cells #[.int .i64 0] 3)
          have vM : Var (wA.alloc (.cells #[.int .i64 0] 3)) wA.heap.size (.int .i64 0) 3 := heap_alloc_new wA _
          have HVM : Hid (Var (wA.alloc (.cells #[.int .i64 0] 3)) gn (.int .i64 (v : Int)) 3) := (bM.block gn (Nat.lt_of_lt_of_le HV9.out.lt bA.size)).trans ((bA.block gn HV9.out.lt).trans HV9.out)
          have hSQ : Src (wA.alloc (.cells #[.int .i64 0] 3)) (some ⟨gb, k, none⟩) (c1 - k) (cA - k) (numB v) := by
            have h1 : Src wA (some ⟨gb, 0, none⟩) c1 cA Z := ⟨SA.len, SA.nil, SA.cell, HO.out⟩
            have h2 := h1.from k hkn ⟨gb, k, none⟩ (fun _ => by rw [Addr.add_lit, Nat.zero_add]) (cA - k)
            have h3 := h2.take (c1 - k) (by omega)
            rw [HD.out, show c1 - k = (numB v).length by have := HQ.out; omega, List.take_left] at h3
            rw [show c1 - k = (numB v).length by have := HQ.out; omega]
            exact h3.below bM
          have hlen := hSQ.1
          have HC9 := hide (reads1_any hSQ (by omega) (by have := HN.out.2; omega) HQ.out.2.2.2.2 HVM.out vM)
          have HSQ := hide hSQ
          have HWM := hide (HW9.out.trans ((bA.trans (bM.mono bA.size)).mono HW9.out.size))
          have HZM : Hid (w.heap.size ≤ wA.heap.size) := Nat.le_trans HW9.out.size bA.size
          have HGM : Hid (gn ≠ wA.heap.size ∧ gb ≠ wA.heap.size) := ⟨by have := HV9.out.lt; omega, by omega⟩
          have hck : ¬ cA = k := by omega
          have htc : c1 ≤ cA := by omega
          have hmf : ∀ (fn : Fn) (first cap : Array Value) (w : World), (Instr.makeFunc fn first cap).run Try.prog w = .ok (.func fn first cap) w := fun _ _ _ _ => rfl
          clear SA bA hSQ bM vM HW9 HV9 zA hcA hgb hlen
          go_wp2_with fail
          refine HC9.out.mono ?_
          rintro r wN ⟨rfl, VN, KN0⟩
          have KN : Kg (wA.alloc (.cells #[.int .i64 0] 3)) wN wA.heap.size := ⟨KN0.os, KN0.tape, KN0.output, KN0.size, KN0.block⟩
          have p1 := VN.c
          have vN := KN.var HVM.out HGM.out.1
          have p2 := vN.c
          have HWN : Hid (Below w.heap.size w wN) := by
            have h := HWM.out
            exact ⟨KN.os.trans h.os, KN.tape.trans h.tape, KN.output.trans h.output, Nat.le_trans h.size KN.size, fun i hi => (KN.block i (Nat.lt_of_lt_of_le hi h.size) (by have := HZM.out; omega)).trans (h.block i hi)⟩
          have HSN := hide (HSQ.out.kg KN (fun _ e => HGM.out.2 (Option.some.inj e)))
          have HVN := hide vN
          clear KN0 KN VN vN HC9 HWM HSQ HVM
          by_cases hv0 : 0 < v
          · have hlen := HSN.out.1
            have HC10 := hide (reads2_any HSN.out (by omega) (by have := HN.out.2; omega) HQ.out.2.2.2.2 hv0 HVN.out)
            clear hlen
            go_wp2_with fail
            refine HC10.out.mono ?_
            rintro r wO ⟨rfl, bO⟩
            have HWO := hide (HWN.out.trans (bO.mono HWN.out.size))
            clear bO HC10
            go_wp2_with fail
            go_ret
            exact ⟨rfl, HWO.out⟩
          · obtain rfl : v = 0 := by omega
            go_wp2_with fail
            go_ret
            exact ⟨rfl, HWN.out⟩
        · obtain ⟨rfl, rfl⟩ : a9 = some ⟨bb, t, none⟩ ∧ c9 = c1 - t := by
            rcases hcases with ⟨x, -⟩ | ⟨ad, x, y, -⟩ | ⟨ad, x, y, z, z2⟩
            · cases x
            · exact absurd y hct
            · cases x
              rw [Addr.add_lit, Nat.zero_add] at z
              exact ⟨z, z2⟩
          clear hcases
          go_wp2_with fail
          go_quiet (fail)
          have bq := below_drewN w8 nq
          have HW9 := hide (HWr.out.trans (bq.mono HWr.out.size))
          have HV9 : Hid (Var (w8.drewN nq) gn (.int .i64 (v : Int)) 3) := (bq.block gn HVr.out.lt).trans HVr.out
          clear bq hs8 hs9 HBr HVr HWr HSr HC8 hx5 hx8 hx9 hk1 hw2
          generalize w8.drewN nq = w9 at HW9 HV9 ⊢
          obtain ⟨wA, cA, hcv, SA, bA, zA, hcA⟩ := conv_bc w9 (strOfNums Z)
          rw [hsz] at hcv SA hcA
          rw [strB_nums Z HO.out] at SA
          obtain ⟨gb, hgb⟩ : ∃ gb, w9.heap.size = gb := ⟨_, rfl⟩
          rw [hgb] at hcv SA zA
          have bM := below_new wA (.cells #[.int .i64 0] 3)
          have vM : Var (wA.alloc (.cells #[.int .i64 0] 3)) wA.heap.size (.int .i64 0) 3 := heap_alloc_new wA _
          have HVM : Hid (Var (wA.alloc (.cells #[.int .i64 0] 3)) gn (.int .i64 (v : Int)) 3) := (bM.block gn (Nat.lt_of_lt_of_le HV9.out.lt bA.size)).trans ((bA.block gn HV9.out.lt).trans HV9.out)
          have hSQ : Src (wA.alloc (.cells #[.int .i64 0] 3)) (some ⟨gb, k, none⟩) (t - k) (cA - k) (numB v) := by
            have h1 : Src wA (some ⟨gb, 0, none⟩) n cA Z := ⟨SA.len, SA.nil, SA.cell, HO.out⟩
            have h2 := h1.from k hkn ⟨gb, k, none⟩ (fun _ => by rw [Addr.add_lit, Nat.zero_add]) (cA - k)
            have h3 := h2.take (t - k) (by omega)
            rw [HD.out, show t - k = (numB v).length by have := HQ.out; omega, List.take_left] at h3
            rw [show t - k = (numB v).length by have := HQ.out; omega]
            exact h3.below bM
          have hlen := hSQ.1
          have HC9 := hide (reads1_any hSQ (by omega) (by have := HN.out.2; omega) HQ.out.2.2.2.2 HVM.out vM)
          have HSQ := hide hSQ
          have HWM := hide (HW9.out.trans ((bA.trans (bM.mono bA.size)).mono HW9.out.size))
          have HZM : Hid (w.heap.size ≤ wA.heap.size) := Nat.le_trans HW9.out.size bA.size
          have HGM : Hid (gn ≠ wA.heap.size ∧ gb ≠ wA.heap.size) := ⟨by have := HV9.out.lt; omega, by omega⟩
          have hck : ¬ cA = k := by omega
          have htc : t ≤ cA := by omega
          have hmf : ∀ (fn : Fn) (first cap : Array Value) (w : World), (Instr.makeFunc fn first cap).run Try.prog w = .ok (.func fn first cap) w := fun _ _ _ _ => rfl
          clear SA bA hSQ bM vM HW9 HV9 zA hcA hgb hlen
          go_wp2_with fail
          refine HC9.out.mono ?_
          rintro r wN ⟨rfl, VN, KN0⟩
          have KN : Kg (wA.alloc (.cells #[.int .i64 0] 3)) wN wA.heap.size := ⟨KN0.os, KN0.tape, KN0.output, KN0.size, KN0.block⟩
          have p1 := VN.c
          have vN := KN.var HVM.out HGM.out.1
          have p2 := vN.c
          have HWN : Hid (Below w.heap.size w wN) := by
            have h := HWM.out
            exact ⟨KN.os.trans h.os, KN.tape.trans h.tape, KN.output.trans h.output, Nat.le_trans h.size KN.size, fun i hi => (KN.block i (Nat.lt_of_lt_of_le hi h.size) (by have := HZM.out; omega)).trans (h.block i hi)⟩
          have HSN := hide (HSQ.out.kg KN (fun _ e => HGM.out.2 (Option.some.inj e)))
          have HVN := hide vN
          clear KN0 KN VN vN HC9 HWM HSQ HVM
          by_cases hv0 : 0 < v
          · have hlen := HSN.out.1
            have HC10 := hide (reads2_any HSN.out (by omega) (by have := HN.out.2; omega) HQ.out.2.2.2.2 hv0 HVN.out)
            clear hlen
            go_wp2_with fail
            refine HC10.out.mono ?_
            rintro r wO ⟨rfl, bO⟩
            have HWO := hide (HWN.out.trans (bO.mono HWN.out.size))
            clear bO HC10
            go_wp2_with fail
            go_ret
            exact ⟨rfl, HWO.out⟩
          · obtain rfl : v = 0 := by omega
            go_wp2_with fail
            go_ret
            exact ⟨rfl, HWN.out⟩
end Go.Proofs.Ytgcaijfofcbblaa
