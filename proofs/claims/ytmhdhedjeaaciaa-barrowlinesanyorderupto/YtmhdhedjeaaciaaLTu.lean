/- addUp: it answers true of a list in form. -/
import Derived.Test.YtmhdhedjeaaciaaLTx
import Derived.Test.YtmhdhedjeaaciaaLAd
import Derived.Test.YtmhdhedjeaaciaaLDd
namespace Go.Proofs.Ytmhdhedjeaaciaa
open Go.RowKit
attribute [local go_sem ↓] ld28_eq st28_eq ldL_eq stL_eq run_eqL
attribute [local go_sem] zero_EC cells_EV EC_size zero_LC cells_LV LC_size set0_LC'

set_option maxRecDepth 100000 in
set_option maxHeartbeats 16000000 in
theorem addUp_any (ao : Option Addr) (n cap : Nat) (L : List En) (w : World) (hS : ESrc w ao n cap L) (hch : chk L = 0) :
    Calls Try.prog 27 #[.slice ao n cap] w fun y w' => y = .returned (.bool true) ∧ Below w.heap.size w w' := by
  have HS := hide hS
  have HL : Hid (L.length = n) := hS.1
  have HC := hide hch
  have HTV : Hid (totV L = ttl L) := by show _ = _; rw [totV, if_pos hch]
  have hlen := chk_len hch
  rw [HL.out] at hlen
  have HTB := hide (ttl_bd L (chk_all hch))
  have HAL := hide (chk_all hch)
  clear hS hch
  go_enter Try.func27, Try.ntmps27
  go_wp2_with fail
  refine (lines_any ao n cap L _ HS.out).mono ?_
  rintro y w2 ⟨a2, n2, c2, R, er, rfl, S2, b2, f2, t2⟩
  have HF2 := hide f2
  have HY := hide (lay_of HC.out t2)
  have her : er = 0 := by rcases t2 with ⟨h', _⟩ | ⟨_, h', _⟩; exact absurd HC.out h'; exact h'
  subst her
  have B2 := hide b2
  have HS2 := hide S2
  clear S2 b2 f2 t2
  go_wp2_with fail
  refine (total_any ao n cap L _ (HS.out.below B2.out)).mono ?_
  rintro y w3 ⟨rfl, b3⟩
  rw [HTV.out, HC.out]
  obtain ⟨tt, Htt⟩ : ∃ tt, Hid (ttl L = tt) := ⟨_, rfl⟩
  rw [Htt.out]
  have HS3 := hide (HS2.out.below b3)
  have B3 := hide (B2.out.trans (b3.mono B2.out.size))
  have HSL := hide (HS.out.below B3.out)
  have HR : Hid (R.length = n2) := HS3.out.1
  have hn2 := HS3.out.2.2.2.2
  clear b3 B2 HS2
  go_wp2_with fail
  go_loopw [7, 8, 32] (fun s p i wr => ∃ k : Nat, k ≤ n2 ∧ s = .int .i64 (qs (R.take k)) ∧ p = .int .i64 (ps (R.take k)) ∧ i = .int .i64 k ∧ Hid (Below w3.heap.size w3 wr)) (fun _ _ i _ => n2 - (intOf i).toNat)
  case atStart => exact ⟨0, Nat.zero_le _, rfl, rfl, rfl, Below.refl _ _⟩
  case round =>
    obtain ⟨k, hk, rfl, rfl, rfl, HB⟩ := hrel
    have hsm := sums_le HY.out.pos k
    have hsm' := sums_le HY.out.pos (k + 1)
    have htb := HTB.out
    rw [HL.out] at htb
    rw [HY.out.q, HY.out.p, HL.out] at hsm hsm'
    obtain ⟨p, Hp⟩ : ∃ p, Hid (ps (R.take k) = p) := ⟨_, rfl⟩
    obtain ⟨q, Hq⟩ : ∃ q, Hid (qs (R.take k) = q) := ⟨_, rfl⟩
    rw [Hp.out, Hq.out] at hsm ⊢
    by_cases hlt : k < n2
    · obtain ⟨ad, rfl, A0⟩ := (HS3.out.below HB.out).at k hlt
      obtain ⟨g, rfl⟩ : ∃ g, ad = ⟨g, 0, none⟩ := ⟨_, (HF2.out ad rfl).2⟩
      have htk := take_snocL R k (by rw [HR.out]; exact hlt)
      have hmem : R.getD k ln0 ∈ R := by rw [show R.getD k ln0 = R[k]'(by rw [HR.out]; exact hlt) by simp [List.getD, HR.out, hlt]]; exact List.getElem_mem _
      have hpos := HY.out.pos _ hmem
      have hself := HY.out.self _ hmem
      have HN : Hid (ps (R.take (k + 1)) = p + (R.getD k ln0).parts ∧ qs (R.take (k + 1)) = q + (R.getD k ln0).qty) := by
        show _ ∧ _
        rw [htk, ps_append, qs_append, Hp.out, Hq.out]; simp [ps, qs]
      rw [HN.out.1, HN.out.2] at hsm'
      have hrise : ∀ j, k = j + 1 → (R.getD j ln0).sku.data.toList < (R.getD k ln0).sku.data.toList := fun j hj => HY.out.rise j k (by omega) (by rw [HR.out]; exact hlt)
      obtain ⟨l, Hl⟩ : ∃ l, Hid (R.getD k ln0 = l) := ⟨_, rfl⟩
      rw [Hl.out] at A0 HN hpos hself hsm' hrise
      have HSELF := hide hself
      rw [Addr.add_lit, Nat.zero_add] at A0
      have hld := run_ldL A0
      have hw1 : IntKind.i64.wrap (p + l.parts) = p + l.parts := by rw [IntKind.wrap_i64]; omega
      have hw2 : IntKind.i64.wrap (q + l.qty) = q + l.qty := by rw [IntKind.wrap_i64]; omega
      have HWS := hide (And.intro hw1 hw2)
      have hps : (l.parts == 0) = false := by rw [beq_eq_false_iff_ne]; omega
      have HPS := hide hps
      obtain ⟨wk, hst, X1, B1', Z1⟩ := madeL wr l wr.heap.size rfl
      have HX := hide X1
      have HBK := hide (HB.out.trans (B1'.mono HB.out.size))
      have HB1 := hide B1'
      have hHR := hide hrise
      obtain ⟨g10, Hg10⟩ : ∃ g10, Hid (wr.heap.size = g10) := ⟨_, rfl⟩
      rw [Hg10.out] at hst HX
      have hg10 := Hg10.out
      clear X1 B1' A0 Z1 hsm hsm' htb hself hmem htk hpos hrise hw1 hw2 hps
      by_cases hk0 : k = 0
      · subst hk0
        rw [Nat.zero_mul] at hld
        go_wp2_with fail
        refine wp_region_quiet_below (by kernel_rfl) (by kernel_rfl) ?_
        repeat (with_reducible (refine wpQuiet_step ?_); intro K hK; go_simp; (try rw [if_neg (by unfold undef; simp)]); (with_reducible (refine hK _ ?_); clear hK K))
        with_reducible (refine wpQuiet_nil ?_)
        intro _ hw'
        obtain ⟨⟨dq, osq⟩, hw''⟩ := hw'
        subst hw''
        have HW5 := hide (below_regrown wk dq osq)
        obtain ⟨w5, Hw5⟩ : ∃ w5, Hid (Sort.grow (redrawn wk dq) osq = w5) := ⟨_, rfl⟩
        rw [Hw5.out] at HW5 ⊢
        clear Hw5
        clear hst hld hg10
        have HX5 := hide (HX.out.below HW5.out)
        have c0 : w5.cell? ⟨g10, 0, none⟩ = some (.string l.sku) := HX5.out.at.c0
        have HB5 := hide (HBK.out.trans (HW5.out.mono HBK.out.size))
        obtain ⟨w6, hst6, X6, B6, Z6⟩ := madeL w5 ⟨l.sku, 0, 0⟩ w5.heap.size rfl
        have HX6 := hide X6
        have HB6 := hide B6
        clear X6 B6 Z6 HX HBK HB1 HW5
        go_wp2_with fail
        clear c0 hst6
        go_loopw [55] (fun i wr2 => ∃ j : Nat, j ≤ n ∧ i = .int .i64 j ∧ Hid (LBox wr2 w5.heap.size 29 ⟨l.sku, (lineOf (L.take j) l.sku).qty, (lineOf (L.take j) l.sku).parts⟩) ∧ Hid (Below w5.heap.size w5 wr2)) (fun i _ => n - (intOf i).toNat)
        case atStart => exact ⟨0, Nat.zero_le _, rfl, HX6, HB6⟩
        case round =>
          obtain ⟨m, hm, rfl, HXW, HBW⟩ := hrel
          by_cases hml : m < n
          · obtain ⟨ad, rfl, A0⟩ := ((HSL.out.below HB5.out).below HBW.out).at m hml
            have hld := run_ld28 A0
            have hts := take_snoc L m (by rw [HL.out]; exact hml)
            have hbd := line_bd (L.take m) (fun x hx => HAL.out x (List.mem_of_mem_take hx)) l.sku
            have htl : (L.take m).length = m := by rw [List.length_take, HL.out]; omega
            rw [htl] at hbd
            have hqe := HAL.out _ (getD_mem L m (by rw [HL.out]; exact hml))
            obtain ⟨e, He⟩ : ∃ e, Hid (L.getD m en0 = e) := ⟨_, rfl⟩
            rw [He.out] at hld A0 hqe hts
            obtain ⟨x, Hx⟩ : ∃ x, Hid (lineOf (L.take m) l.sku = x) := ⟨_, rfl⟩
            rw [Hx.out] at hbd HXW
            have HTS := hide hts
            obtain ⟨wm, hstm, XM, BM, ZM⟩ := made wr e wr.heap.size rfl
            have HXM := hide XM
            have c2 : wm.cell? ⟨wr.heap.size, 2, none⟩ = some (.string e.sku) := by have h := XM.at.c2; simpa [Addr.add] using h
            have HXL := hide (HXW.out.below BM)
            have HBM := hide (HBW.out.trans (BM.mono HBW.out.size))
            have c0 : wm.cell? ⟨g10, 0, none⟩ = some (.string l.sku) := (HX5.out.below HBM.out).at.c0
            clear XM BM ZM A0 htl hts
            by_cases hes : e.sku = l.sku
            · have hqs := yesS hes
              have hwq : IntKind.i64.wrap (x.qty + e.qty) = x.qty + e.qty := by rw [IntKind.wrap_i64]; omega
              have hwp : IntKind.i64.wrap (x.parts + 1) = x.parts + 1 := by rw [IntKind.wrap_i64]; omega
              have q1 : wm.cell? ⟨w5.heap.size, 1, none⟩ = some (.int .i64 x.qty) := by have h := HXL.out.at.c1; simpa [Addr.add] using h
              have q3 : wm.cell? ⟨wr.heap.size, 3, none⟩ = some (.int .i64 e.qty) := by have h := HXM.out.at.c3; simpa [Addr.add] using h
              have X7 := HXL.out.setC (y := ⟨l.sku, x.qty + e.qty, x.parts⟩) 1 (.int .i64 (x.qty + e.qty)) rfl
              have f1 := X7.2
              have q2 : (wm.setCell ⟨w5.heap.size, 1, none⟩ (.int .i64 (x.qty + e.qty))).cell? ⟨w5.heap.size, 2, none⟩ = some (.int .i64 x.parts) := by have h := X7.1.at.c2; simpa [Addr.add] using h
              have X8 := X7.1.setC (y := ⟨l.sku, x.qty + e.qty, x.parts + 1⟩) 2 (.int .i64 (x.parts + 1)) rfl
              have f2 := X8.2
              have HX8 := hide X8.1
              have HB8 : Hid (Below w5.heap.size w5 ((wm.setCell ⟨w5.heap.size, 1, none⟩ (.int .i64 (x.qty + e.qty))).setCell ⟨w5.heap.size, 2, none⟩ (.int .i64 (x.parts + 1)))) := (HBM.out.setCell (Nat.le_refl _) _).setCell (Nat.le_refl _) _
              have HLN : Hid (lineOf (L.take (m + 1)) l.sku = addL x e) := by show _ = _; rw [HTS.out, ← hes, lineOf_same, hes, Hx.out]
              clear X7 X8 hes
              go_wp2_with fail
              go_roundw
              case rel => exact ⟨m + 1, by omega, by go_num, by rw [HLN.out]; exact HX8, HB8⟩
              case measure => simp [intOf]; omega
            · have hqs := neS hes
              have HLN : Hid (lineOf (L.take (m + 1)) l.sku = x) := by show _ = _; rw [HTS.out, lineOf_other _ _ _ hes, Hx.out]
              clear hes
              go_wp2_with fail
              go_roundw
              case rel => exact ⟨m + 1, by omega, by go_num, by rw [HLN.out]; exact HXL, HBM⟩
              case measure => simp [intOf]; omega
          · obtain rfl : m = n := by omega
            have htk : L.take m = L := List.take_of_length_le (by rw [HL.out]; exact Nat.le_refl _)
            have hX := HXW.out
            rw [htk, ← HSELF.out] at hX
            have lw := run_ldL hX.at
            have HXl := hide (HX5.out.below HBW.out)
            have ll := run_ldL HXl.out.at
            have hqq := eqL_self l
            have hps := HPS.out
            have d1 : wr.cell? ⟨g10, 1, none⟩ = some (.int .i64 l.qty) := by have h := HXl.out.at.c1; simpa [Addr.add] using h
            have d2 : wr.cell? ⟨g10, 2, none⟩ = some (.int .i64 l.parts) := by have h := HXl.out.at.c2; simpa [Addr.add] using h
            have hw1 := HWS.out.1
            have hw2 := HWS.out.2
            have HBZ := hide (HB5.out.trans (HBW.out.mono HB5.out.size))
            clear hX htk
            go_wp2_with fail
            go_roundw
            case rel => exact ⟨0 + 1, by omega, by rw [HN.out.2], by rw [HN.out.1], by go_num, HBZ⟩
            case measure => simp [intOf]; omega
      · have hk1 : decide ((0 : Int) < (k : Int)) = true := decide_eq_true (by omega)
        have hk2 : 0 < k := by omega
        obtain ⟨j, hj⟩ : ∃ j, k - 1 = j := ⟨_, rfl⟩
        have hz : IntKind.i64.wrap ((k : Int) - 1) = (j : Int) := by rw [IntKind.wrap_i64]; omega
        have hjn : j < n2 := by omega
        have A1 := ((HS3.out.below HB.out).2.2.1 _ rfl j hjn).on HB1.out
        have hr := hHR.out j (by omega)
        obtain ⟨l1, Hl1⟩ : ∃ l1, Hid (R.getD j ln0 = l1) := ⟨_, rfl⟩
        rw [Hl1.out] at A1 hr
        rw [Addr.add_lit, Nat.zero_add] at A1
        have HA1 := hide A1.c0
        have c1 : ∀ d os, (Sort.grow (redrawn wk d) os).cell? ⟨g, j * 3, none⟩ = some (.string l1.sku) := fun d os => ((below_regrown wk d os).cell (World.block_lt_of_cell? _ _ HA1.out)).trans HA1.out
        have c2 : ∀ d os, (Sort.grow (redrawn wk d) os).cell? ⟨g10, 0, none⟩ = some (.string l.sku) := fun d os => (HX.out.below (below_regrown wk d os)).at.c0
        have hbl : Op.bytesLess l1.sku.toList l.sku.toList = true := by rw [ByteArray.toList_eq, ByteArray.toList_eq, bytesLess_eq]; exact decide_eq_true hr
        clear A1 hr hk0
        go_wp2_with fail
        refine wp_region_quiet_below (by kernel_rfl) (by kernel_rfl) ?_
        repeat (with_reducible (refine wpQuiet_step ?_); intro K hK; go_simp; (try rw [if_neg (by unfold undef; simp)]); (with_reducible (refine hK _ ?_); clear hK K))
        with_reducible (refine wpQuiet_nil ?_)
        intro _ hw'
        obtain ⟨⟨dq, osq⟩, hw''⟩ := hw'
        subst hw''
        have HW5 := hide (below_regrown wk dq osq)
        obtain ⟨w5, Hw5⟩ : ∃ w5, Hid (Sort.grow (redrawn wk dq) osq = w5) := ⟨_, rfl⟩
        rw [Hw5.out] at HW5 ⊢
        clear Hw5
        clear c1 c2 hbl
        clear hst hld hg10
        have HX5 := hide (HX.out.below HW5.out)
        have c0 : w5.cell? ⟨g10, 0, none⟩ = some (.string l.sku) := HX5.out.at.c0
        have HB5 := hide (HBK.out.trans (HW5.out.mono HBK.out.size))
        obtain ⟨w6, hst6, X6, B6, Z6⟩ := madeL w5 ⟨l.sku, 0, 0⟩ w5.heap.size rfl
        have HX6 := hide X6
        have HB6 := hide B6
        clear X6 B6 Z6 HX HBK HB1 HW5
        go_wp2_with fail
        clear c0 hst6
        go_loopw [55] (fun i wr2 => ∃ j : Nat, j ≤ n ∧ i = .int .i64 j ∧ Hid (LBox wr2 w5.heap.size 29 ⟨l.sku, (lineOf (L.take j) l.sku).qty, (lineOf (L.take j) l.sku).parts⟩) ∧ Hid (Below w5.heap.size w5 wr2)) (fun i _ => n - (intOf i).toNat)
        case atStart => exact ⟨0, Nat.zero_le _, rfl, HX6, HB6⟩
        case round =>
          obtain ⟨m, hm, rfl, HXW, HBW⟩ := hrel
          by_cases hml : m < n
          · obtain ⟨ad, rfl, A0⟩ := ((HSL.out.below HB5.out).below HBW.out).at m hml
            have hld := run_ld28 A0
            have hts := take_snoc L m (by rw [HL.out]; exact hml)
            have hbd := line_bd (L.take m) (fun x hx => HAL.out x (List.mem_of_mem_take hx)) l.sku
            have htl : (L.take m).length = m := by rw [List.length_take, HL.out]; omega
            rw [htl] at hbd
            have hqe := HAL.out _ (getD_mem L m (by rw [HL.out]; exact hml))
            obtain ⟨e, He⟩ : ∃ e, Hid (L.getD m en0 = e) := ⟨_, rfl⟩
            rw [He.out] at hld A0 hqe hts
            obtain ⟨x, Hx⟩ : ∃ x, Hid (lineOf (L.take m) l.sku = x) := ⟨_, rfl⟩
            rw [Hx.out] at hbd HXW
            have HTS := hide hts
            obtain ⟨wm, hstm, XM, BM, ZM⟩ := made wr e wr.heap.size rfl
            have HXM := hide XM
            have c2 : wm.cell? ⟨wr.heap.size, 2, none⟩ = some (.string e.sku) := by have h := XM.at.c2; simpa [Addr.add] using h
            have HXL := hide (HXW.out.below BM)
            have HBM := hide (HBW.out.trans (BM.mono HBW.out.size))
            have c0 : wm.cell? ⟨g10, 0, none⟩ = some (.string l.sku) := (HX5.out.below HBM.out).at.c0
            clear XM BM ZM A0 htl hts
            by_cases hes : e.sku = l.sku
            · have hqs := yesS hes
              have hwq : IntKind.i64.wrap (x.qty + e.qty) = x.qty + e.qty := by rw [IntKind.wrap_i64]; omega
              have hwp : IntKind.i64.wrap (x.parts + 1) = x.parts + 1 := by rw [IntKind.wrap_i64]; omega
              have q1 : wm.cell? ⟨w5.heap.size, 1, none⟩ = some (.int .i64 x.qty) := by have h := HXL.out.at.c1; simpa [Addr.add] using h
              have q3 : wm.cell? ⟨wr.heap.size, 3, none⟩ = some (.int .i64 e.qty) := by have h := HXM.out.at.c3; simpa [Addr.add] using h
              have X7 := HXL.out.setC (y := ⟨l.sku, x.qty + e.qty, x.parts⟩) 1 (.int .i64 (x.qty + e.qty)) rfl
              have f1 := X7.2
              have q2 : (wm.setCell ⟨w5.heap.size, 1, none⟩ (.int .i64 (x.qty + e.qty))).cell? ⟨w5.heap.size, 2, none⟩ = some (.int .i64 x.parts) := by have h := X7.1.at.c2; simpa [Addr.add] using h
              have X8 := X7.1.setC (y := ⟨l.sku, x.qty + e.qty, x.parts + 1⟩) 2 (.int .i64 (x.parts + 1)) rfl
              have f2 := X8.2
              have HX8 := hide X8.1
              have HB8 : Hid (Below w5.heap.size w5 ((wm.setCell ⟨w5.heap.size, 1, none⟩ (.int .i64 (x.qty + e.qty))).setCell ⟨w5.heap.size, 2, none⟩ (.int .i64 (x.parts + 1)))) := (HBM.out.setCell (Nat.le_refl _) _).setCell (Nat.le_refl _) _
              have HLN : Hid (lineOf (L.take (m + 1)) l.sku = addL x e) := by show _ = _; rw [HTS.out, ← hes, lineOf_same, hes, Hx.out]
              clear X7 X8 hes
              go_wp2_with fail
              go_roundw
              case rel => exact ⟨m + 1, by omega, by go_num, by rw [HLN.out]; exact HX8, HB8⟩
              case measure => simp [intOf]; omega
            · have hqs := neS hes
              have HLN : Hid (lineOf (L.take (m + 1)) l.sku = x) := by show _ = _; rw [HTS.out, lineOf_other _ _ _ hes, Hx.out]
              clear hes
              go_wp2_with fail
              go_roundw
              case rel => exact ⟨m + 1, by omega, by go_num, by rw [HLN.out]; exact HXL, HBM⟩
              case measure => simp [intOf]; omega
          · obtain rfl : m = n := by omega
            have htk : L.take m = L := List.take_of_length_le (by rw [HL.out]; exact Nat.le_refl _)
            have hX := HXW.out
            rw [htk, ← HSELF.out] at hX
            have lw := run_ldL hX.at
            have HXl := hide (HX5.out.below HBW.out)
            have ll := run_ldL HXl.out.at
            have hqq := eqL_self l
            have hps := HPS.out
            have d1 : wr.cell? ⟨g10, 1, none⟩ = some (.int .i64 l.qty) := by have h := HXl.out.at.c1; simpa [Addr.add] using h
            have d2 : wr.cell? ⟨g10, 2, none⟩ = some (.int .i64 l.parts) := by have h := HXl.out.at.c2; simpa [Addr.add] using h
            have hw1 := HWS.out.1
            have hw2 := HWS.out.2
            have HBZ := hide (HB5.out.trans (HBW.out.mono HB5.out.size))
            clear hX htk
            go_wp2_with fail
            go_roundw
            case rel => exact ⟨k + 1, by omega, by rw [HN.out.2], by rw [HN.out.1], by go_num, HBZ⟩
            case measure => simp [intOf]; omega
    · obtain rfl : k = n2 := by omega
      have htk : R.take k = R := List.take_of_length_le (by rw [HR.out]; exact Nat.le_refl _)
      have hpp : p = (n : Int) := by rw [← Hp.out, htk, HY.out.p, HL.out]
      have hqq : q = tt := by rw [← Hq.out, htk, HY.out.q, Htt.out]
      subst hpp hqq
      have HW := hide (B3.out.trans (HB.out.mono B3.out.size))
      clear hsm hsm' htb htk
      go_wp2_with fail
      go_ret
      exact ⟨rfl, HW.out⟩
end Go.Proofs.Ytmhdhedjeaaciaa
