/- BarrowLinesAnyOrder: the law's walk. -/
import Derived.Test.YtmhdhedjeaaciaaLTe
import Derived.Test.YtmhdhedjeaaciaaLTu
import Derived.Test.YtmhdhedjeaaciaaLTo3
namespace Go.Proofs.Ytmhdhedjeaaciaa
open Go.RowKit Go.Lib
attribute [local go_sem ↓] ld28_eq st28_eq ld26_eq run_eqD run_eq28
attribute [local go_sem] zero_EC cells_EV EC_size

set_option maxRecDepth 100000 in
set_option maxHeartbeats 32000000 in
theorem anyOrder_any (ao : Option Addr) (n cap : Nat) (L : List En) (po : Option Addr) (m pc : Nat) (Z : List Int) (w : World) (hS : ESrc w ao n cap L) (hcap : n ≤ cap) (hn : n ≤ 1048576) (hN : NS w po m Z) (hm : m ≤ 1048576) (hZ : ∀ z ∈ Z, -9223372036854775808 ≤ z ∧ z ≤ 9223372036854775807) :
    Calls Try.prog 7 #[.slice ao n cap, .slice po m pc] w fun y w' => y = .returned (.bool true) ∧ Below w.heap.size w w' := by
  have HS := hide hS
  have HN := hide hN
  have HZ := hide hZ
  have HL : Hid (L.length = n) := hS.1
  clear hS hN hZ
  go_enter Try.func7, Try.ntmps7
  go_wp2_with fail
  refine (mug_any _).mono ?_
  rintro y w1 ⟨rfl, b1⟩
  have HB1 := hide b1
  have HS1 := hide (lit_esrc w1 teaL #[.int .i64 0, .int .i64 1, .string bTea, .int .i64 2, .int .i64 1, .int .i64 2, .string bMug, .int .i64 5] rfl 40 2 rfl teaL_sku (by omega))
  have HB1' := hide (HB1.out.trans ((below_new w1 (.cells #[.int .i64 0, .int .i64 1, .string bTea, .int .i64 2, .int .i64 1, .int .i64 2, .string bMug, .int .i64 5] 40)).mono HB1.out.size))
  clear b1
  go_wp2_with fail
  refine (lines_any _ 2 2 teaL _ HS1.out).mono ?_
  rintro y w2 ⟨a2, n2, c2, R2, er2, rfl, S2, b2, f2, t2⟩
  obtain ⟨rfl, rfl⟩ := t2.unique tea_lines
  have HS2 := hide S2
  have HB2 := hide (HB1'.out.trans (b2.mono HB1'.out.size))
  have HLT := hide (lit_lsrc w2 teaR #[.string bMug, .int .i64 5, .int .i64 1, .string bTea, .int .i64 2, .int .i64 1] rfl 29 2 rfl teaR_sku (by omega))
  have HB2' := hide (below_new w2 (.cells #[.string bMug, .int .i64 5, .int .i64 1, .string bTea, .int .i64 2, .int .i64 1] 29))
  clear S2 b2 f2 t2 HS1 HB1 HB1'
  go_wp2_with fail
  refine (sameLinesT_any a2 _ n2 c2 2 2 _ _ _ (HS2.out.below HB2'.out) HLT.out rfl).mono ?_
  rintro y w3 ⟨rfl, b3⟩
  have HB3 := hide ((HB2.out.trans (HB2'.out.mono HB2.out.size)).trans (b3.mono (Nat.le_trans HB2.out.size HB2'.out.size)))
  have HSL := hide (HS.out.below HB3.out)
  clear b3 HS2 HLT HB2 HB2'
  go_wp2_with fail
  go_loopw [7, 42] (fun v i wr => ∃ (k : Nat) (gb : Bool), k ≤ n ∧ v = .bool gb ∧ i = .int .i64 k ∧ Hid (GB gb (GoodN L k)) ∧ Hid (Below w3.heap.size w3 wr)) (fun _ i _ => n - (intOf i).toNat)
  case atStart => exact ⟨0, true, Nat.zero_le _, rfl, rfl, ⟨fun _ => goodN_zero L, fun _ => rfl⟩, Below.refl _ _⟩
  case round =>
    obtain ⟨k, gb, hk, rfl, rfl, HG, HB⟩ := hrel
    by_cases hlt : k < n
    · obtain ⟨ad, rfl, A0⟩ := (HSL.out.below HB.out).at k hlt
      obtain ⟨e, He⟩ : ∃ e, Hid (L.getD k en0 = e) := ⟨_, rfl⟩
      rw [He.out] at A0
      have HA0 := hide A0
      have HSP := hide A0.spot
      have hck : k < cap := by omega
      clear A0
      cases gb with
      | false =>
        have HG0 : Hid (GB false (InG L k e 0)) := gb_no HG.out
        obtain ⟨w4, Hw4⟩ : ∃ w4, Hid (wr = w4) := ⟨_, rfl⟩
        have HB4 := HB
        rw [Hw4.out] at HB4
        go_wp2_with fail
        rw [Hw4.out]
        go_loopw [7, 9] (fun v i wr2 => ∃ (j : Nat) (gc : Bool), j ≤ k ∧ v = .bool gc ∧ i = .int .i64 j ∧ Hid (GB gc (InG L k e j)) ∧ Hid (Below w3.heap.size w3 wr2)) (fun _ i _ => k - (intOf i).toNat)
        case atStart => exact ⟨0, false, Nat.zero_le _, rfl, rfl, HG0, HB4⟩
        case round =>
          obtain ⟨j, gc, hj, rfl, rfl, HGC, HBW⟩ := hrel
          by_cases hjl : j < k
          · have hjn : j < n := by omega
            have AK := (HSL.out.below HBW.out).2.2.1 ad rfl k hlt
            have AJ := (HSL.out.below HBW.out).2.2.1 ad rfl j hjn
            rw [He.out] at AK
            obtain ⟨f, Hf⟩ : ∃ f, Hid (L.getD j en0 = f) := ⟨_, rfl⟩
            rw [Hf.out] at AJ
            have hspk := AK.spot
            have hspj := AJ.spot
            have HAK := hide AK
            have HAJ := hide AJ
            clear AK AJ
            cases gc with
            | false =>
              have HN2 : Hid (GB false (InG L k e (j + 1))) := gb_false HGC.out
              go_wp2_with fail
              refine wp_region_quiet_below (by kernel_rfl) (by kernel_rfl) ?_
              repeat (with_reducible (refine wpQuiet_step ?_); intro K hK; go_simp; (try rw [if_neg (by unfold undef; simp)]); (with_reducible (refine hK _ ?_); clear hK K))
              with_reducible (refine wpQuiet_nil ?_)
              intro _ hw'
              obtain ⟨⟨dq, osq⟩, hw''⟩ := hw'
              subst hw''
              have HBE := hide (HBW.out.trans ((below_regrown wr dq osq).mono HBW.out.size))
              go_wp2_with fail
              go_roundw
              case rel => exact ⟨j + 1, false, by omega, rfl, by go_num, HN2, HBE⟩
              case measure => simp [intOf]; omega
            | true =>
              have l1 : ∀ d os, (ld26 (.pointer (some (ad.add (j * 4))))).run Try.prog (Sort.grow (redrawn wr d) os) = .ok (.agg (DC f)) (Sort.grow (redrawn wr d) os) := fun d os => run_ld26 (HAJ.out.on (below_regrown wr d os))
              have l2 : ∀ d os, (ld26 (.pointer (some (ad.add (k * 4))))).run Try.prog (Sort.grow (redrawn wr d) os) = .ok (.agg (DC e)) (Sort.grow (redrawn wr d) os) := fun d os => run_ld26 (HAK.out.on (below_regrown wr d os))
              have l3 : ∀ d os, (ld28 (.pointer (some (ad.add (j * 4))))).run Try.prog (Sort.grow (redrawn wr d) os) = .ok (EV f) (Sort.grow (redrawn wr d) os) := fun d os => run_ld28 (HAJ.out.on (below_regrown wr d os))
              have l4 : ∀ d os, (ld28 (.pointer (some (ad.add (k * 4))))).run Try.prog (Sort.grow (redrawn wr d) os) = .ok (EV e) (Sort.grow (redrawn wr d) os) := fun d os => run_ld28 (HAK.out.on (below_regrown wr d os))
              obtain ⟨d0, Hd0⟩ : ∃ d0, Hid (sameDot f e = d0) := ⟨_, rfl⟩
              have hd0 := Hd0.out
              cases d0 with
              | false =>
                have HN2 : Hid (GB true (InG L k e (j + 1))) := gb_miss HGC.out Hf.out Hd0.out
                go_wp2_with fail
                refine wp_region_quiet_below (by kernel_rfl) (by kernel_rfl) ?_
                repeat (with_reducible (refine wpQuiet_step ?_); intro K hK; go_simp; (try rw [if_neg (by unfold undef; simp)]); (with_reducible (refine hK _ ?_); clear hK K))
                with_reducible (refine wpQuiet_nil ?_)
                intro _ hw'
                obtain ⟨⟨dq, osq⟩, hw''⟩ := hw'
                subst hw''
                have HBE := hide (HBW.out.trans ((below_regrown wr dq osq).mono HBW.out.size))
                go_wp2_with fail
                go_roundw
                case rel => exact ⟨j + 1, true, by omega, rfl, by go_num, HN2, HBE⟩
                case measure => simp [intOf]; omega
              | true =>
                obtain ⟨q0, Hq0⟩ : ∃ q0, Hid (eqE f e = q0) := ⟨_, rfl⟩
                have hq0 := Hq0.out
                have HN2 : Hid (GB q0 (InG L k e (j + 1))) := gb_hit HGC.out Hf.out Hd0.out Hq0.out
                go_wp2_with fail
                refine wp_region_quiet_below (by kernel_rfl) (by kernel_rfl) ?_
                repeat (with_reducible (refine wpQuiet_step ?_); intro K hK; go_simp; (try rw [if_neg (by unfold undef; simp)]); (with_reducible (refine hK _ ?_); clear hK K))
                with_reducible (refine wpQuiet_nil ?_)
                intro _ hw'
                obtain ⟨⟨dq, osq⟩, hw''⟩ := hw'
                subst hw''
                have HBE := hide (HBW.out.trans ((below_regrown wr dq osq).mono HBW.out.size))
                go_wp2_with fail
                go_roundw
                case rel => exact ⟨j + 1, q0, by omega, rfl, by go_num, HN2, HBE⟩
                case measure => simp [intOf]; omega
          · obtain rfl : j = k := by omega
            have HGN : Hid (GB gc (GoodN L (j + 1))) := goodN_step He.out HGC.out
            go_wp2_with fail
            go_roundw
            case rel => exact ⟨j + 1, gc, by omega, rfl, by go_num, HGN, HBW⟩
            case measure => simp [intOf]; omega
      | true =>
        have hw1 : IntKind.i64.wrap ((k : Int) + 1) = (k : Int) + 1 := by rw [IntKind.wrap_i64]; omega
        go_wp2_with fail
        refine (entriesOK_any (some (ad.add (k * 4))) 1 (cap - k) [e] _ (one_src HA0.out HS.out hlt He.out)).mono ?_
        rintro y w4 ⟨rfl, b4⟩
        have HB4 := hide (HB.out.trans (b4.mono HB.out.size))
        obtain ⟨g0, Hg0⟩ : ∃ g0, Hid (okN [e] [e].length = g0) := ⟨_, rfl⟩
        have HG0 : Hid (GB g0 (InG L k e 0)) := gb_start (HG.out.1 rfl) (by rw [← Hg0.out, ok_one]; simp)
        rw [Hg0.out]
        clear b4 hw1
        go_wp2_with fail
        go_loopw [7, 9] (fun v i wr2 => ∃ (j : Nat) (gc : Bool), j ≤ k ∧ v = .bool gc ∧ i = .int .i64 j ∧ Hid (GB gc (InG L k e j)) ∧ Hid (Below w3.heap.size w3 wr2)) (fun _ i _ => k - (intOf i).toNat)
        case atStart => exact ⟨0, g0, Nat.zero_le _, rfl, rfl, HG0, HB4⟩
        case round =>
          obtain ⟨j, gc, hj, rfl, rfl, HGC, HBW⟩ := hrel
          by_cases hjl : j < k
          · have hjn : j < n := by omega
            have AK := (HSL.out.below HBW.out).2.2.1 ad rfl k hlt
            have AJ := (HSL.out.below HBW.out).2.2.1 ad rfl j hjn
            rw [He.out] at AK
            obtain ⟨f, Hf⟩ : ∃ f, Hid (L.getD j en0 = f) := ⟨_, rfl⟩
            rw [Hf.out] at AJ
            have hspk := AK.spot
            have hspj := AJ.spot
            have HAK := hide AK
            have HAJ := hide AJ
            clear AK AJ
            cases gc with
            | false =>
              have HN2 : Hid (GB false (InG L k e (j + 1))) := gb_false HGC.out
              go_wp2_with fail
              refine wp_region_quiet_below (by kernel_rfl) (by kernel_rfl) ?_
              repeat (with_reducible (refine wpQuiet_step ?_); intro K hK; go_simp; (try rw [if_neg (by unfold undef; simp)]); (with_reducible (refine hK _ ?_); clear hK K))
              with_reducible (refine wpQuiet_nil ?_)
              intro _ hw'
              obtain ⟨⟨dq, osq⟩, hw''⟩ := hw'
              subst hw''
              have HBE := hide (HBW.out.trans ((below_regrown wr dq osq).mono HBW.out.size))
              go_wp2_with fail
              go_roundw
              case rel => exact ⟨j + 1, false, by omega, rfl, by go_num, HN2, HBE⟩
              case measure => simp [intOf]; omega
            | true =>
              have l1 : ∀ d os, (ld26 (.pointer (some (ad.add (j * 4))))).run Try.prog (Sort.grow (redrawn wr d) os) = .ok (.agg (DC f)) (Sort.grow (redrawn wr d) os) := fun d os => run_ld26 (HAJ.out.on (below_regrown wr d os))
              have l2 : ∀ d os, (ld26 (.pointer (some (ad.add (k * 4))))).run Try.prog (Sort.grow (redrawn wr d) os) = .ok (.agg (DC e)) (Sort.grow (redrawn wr d) os) := fun d os => run_ld26 (HAK.out.on (below_regrown wr d os))
              have l3 : ∀ d os, (ld28 (.pointer (some (ad.add (j * 4))))).run Try.prog (Sort.grow (redrawn wr d) os) = .ok (EV f) (Sort.grow (redrawn wr d) os) := fun d os => run_ld28 (HAJ.out.on (below_regrown wr d os))
              have l4 : ∀ d os, (ld28 (.pointer (some (ad.add (k * 4))))).run Try.prog (Sort.grow (redrawn wr d) os) = .ok (EV e) (Sort.grow (redrawn wr d) os) := fun d os => run_ld28 (HAK.out.on (below_regrown wr d os))
              obtain ⟨d0, Hd0⟩ : ∃ d0, Hid (sameDot f e = d0) := ⟨_, rfl⟩
              have hd0 := Hd0.out
              cases d0 with
              | false =>
                have HN2 : Hid (GB true (InG L k e (j + 1))) := gb_miss HGC.out Hf.out Hd0.out
                go_wp2_with fail
                refine wp_region_quiet_below (by kernel_rfl) (by kernel_rfl) ?_
                repeat (with_reducible (refine wpQuiet_step ?_); intro K hK; go_simp; (try rw [if_neg (by unfold undef; simp)]); (with_reducible (refine hK _ ?_); clear hK K))
                with_reducible (refine wpQuiet_nil ?_)
                intro _ hw'
                obtain ⟨⟨dq, osq⟩, hw''⟩ := hw'
                subst hw''
                have HBE := hide (HBW.out.trans ((below_regrown wr dq osq).mono HBW.out.size))
                go_wp2_with fail
                go_roundw
                case rel => exact ⟨j + 1, true, by omega, rfl, by go_num, HN2, HBE⟩
                case measure => simp [intOf]; omega
              | true =>
                obtain ⟨q0, Hq0⟩ : ∃ q0, Hid (eqE f e = q0) := ⟨_, rfl⟩
                have hq0 := Hq0.out
                have HN2 : Hid (GB q0 (InG L k e (j + 1))) := gb_hit HGC.out Hf.out Hd0.out Hq0.out
                go_wp2_with fail
                refine wp_region_quiet_below (by kernel_rfl) (by kernel_rfl) ?_
                repeat (with_reducible (refine wpQuiet_step ?_); intro K hK; go_simp; (try rw [if_neg (by unfold undef; simp)]); (with_reducible (refine hK _ ?_); clear hK K))
                with_reducible (refine wpQuiet_nil ?_)
                intro _ hw'
                obtain ⟨⟨dq, osq⟩, hw''⟩ := hw'
                subst hw''
                have HBE := hide (HBW.out.trans ((below_regrown wr dq osq).mono HBW.out.size))
                go_wp2_with fail
                go_roundw
                case rel => exact ⟨j + 1, q0, by omega, rfl, by go_num, HN2, HBE⟩
                case measure => simp [intOf]; omega
          · obtain rfl : j = k := by omega
            have HGN : Hid (GB gc (GoodN L (j + 1))) := goodN_step He.out HGC.out
            go_wp2_with fail
            go_roundw
            case rel => exact ⟨j + 1, gc, by omega, rfl, by go_num, HGN, HBW⟩
            case measure => simp [intOf]; omega
    · obtain rfl : k = n := by omega
      have hLn : L.length = k := HL.out
      have hiff := goodN_iff L
      rw [hLn] at hiff
      have HGF : Hid (GB gb ((∀ e ∈ L, ceE e = 0) ∧ ¬ Clash L)) := Iff.trans HG.out hiff
      have HE0 := hide (OwnE.empty (B0 := wr.heap.size) (B := wr.heap.size) (w := wr) (w' := wr) (Below.refl _ _) (Nat.le_refl _) (Nat.le_refl _))
      have HSW := hide ((HSL.out.below HB.out).below (below_new wr (.cells #[] 40)))
      clear HG hLn hiff
      go_wp2_with (at_builtin; refine HE0.out.appendAll ao k cap L HSW.out (by simp; omega) rfl (.tmp 86) (.tmp 87) rfl 0 rfl rfl rfl ?_; intro ap4 c4 w4 O4)
      have HS4 := hide (O4.src (fun x hx => HS.out.2.2.2.1 x (by simpa using hx)) (by simp [HL.out]; omega)).1
      have hl4 : ([] ++ L).length = k := by simp [HL.out]
      rw [hl4, List.nil_append] at HS4
      have HB4 := hide (HB.out.trans (O4.below.mono HB.out.size))
      clear O4 HE0 HSW hl4 HB
      refine (sort_any ap4 k c4 L _ HS4.out).mono ?_
      rintro y w5 ⟨a5, n5, c5, R, er, rfl, S5, b5, f5, t5⟩
      have HT5 := hide t5
      have HS5 := hide S5
      have HB5 := hide (HB4.out.trans (b5.mono HB4.out.size))
      clear S5 b5 f5 t5 HS4 HB4
      cases gb with
      | false =>
        have her : er ≠ 0 := fun h => by
          have hz := sorted_zero HT5.out h
          have := HGF.out.2 ⟨hz.1, hz.2.1⟩
          cases this
        have hR := sorted_none HT5.out her
        have hn5 : n5 = 0 := by have := HS5.out.1; rw [hR] at this; exact this.symm
        subst hn5
        have he : (er != 0) = true := by simpa using her
        have HW := hide (HB3.out.trans (HB5.out.mono HB3.out.size))
        clear her hR
        go_wp2_with fail
        go_ret
        exact ⟨rfl, HW.out⟩
      | true =>
        obtain ⟨hce, hcl⟩ := HGF.out.1 rfl
        obtain ⟨h0, hasc, hmem⟩ := sorted_good hce hcl HT5.out
        subst h0
        have HCE := hide hce
        have HCL := hide hcl
        have HASC := hide hasc
        have HMEM := hide hmem
        have HCR : Hid (∀ e ∈ R, ceE e = 0) := fun e he => hce e ((hmem e).1 he)
        have HCK : Hid (chk R = 0) := chk_asc hasc HCR.out
        have HNS := hide ((HN.out.below HB3.out).below HB5.out)
        have HSL5 := hide (HSL.out.below HB5.out)
        have HBE1 := hide (below_new w5 (.cells #[] 40))
        have HBE2 := hide (HBE1.out.trans ((below_new (w5.alloc (.cells #[] 40)) (.cells #[] 40)).mono HBE1.out.size))
        have HBE3 := hide (HBE2.out.trans ((below_new ((w5.alloc (.cells #[] 40)).alloc (.cells #[] 40)) (.cells #[] 40)).mono HBE2.out.size))
        clear hce hcl hasc hmem HT5 HGF HSL
        go_wp2_with fail
        refine (shuffled_any k po m pc Z _ (HNS.out.below HBE3.out) hn hm HZ.out).mono ?_
        rintro y w6 ⟨gP, F, rfl, hI, hP, b6, hg6⟩
        have HP := hide hP
        have HR0 := hide (r3_start w5 w6 gP F b6 hI hg6)
        clear hI hP b6 hg6 HBE1 HBE2 HBE3
        go_wp2_with fail
        go_loopw [11, 12, 13, 109] (fun v1 v2 v3 i wr => ∃ (q : Nat) (b1 : Option Addr) (d1 : Nat) (Mx : List En) (b2 : Option Addr) (d2 : Nat) (Le : List En) (b3 : Option Addr) (d3 : Nat) (Ri : List En), q ≤ k ∧ v1 = .slice b1 Mx.length d1 ∧ v2 = .slice b2 Le.length d2 ∧ v3 = .slice b3 Ri.length d3 ∧ i = .int .i64 q ∧ Hid (R3 w5.heap.size w5 wr b1 d1 Mx b2 d2 Le b3 d3 Ri gP F) ∧ Hid (MI L F.toList q Mx Le Ri)) (fun _ _ _ i _ => k - (intOf i).toNat)
        case atStart => exact ⟨0, _, _, [], _, _, [], _, _, [], Nat.zero_le _, rfl, rfl, rfl, rfl, HR0, mi_start _ _⟩
        case round =>
          obtain ⟨q, b1, d1, Mx, b2, d2, Le, b3, d3, Ri, hq, rfl, rfl, rfl, rfl, HR, HM⟩ := hrel
          have hmn := HM.out.n
          by_cases hql : q < k
          · obtain ⟨kk, hkk, hPk⟩ := perm_at HP.out q hql
            have hFs : F.size = k := by have := HP.out.length_eq; simpa using this
            have cP : wr.cell? ⟨gP, q, none⟩ = some (.int .i64 (kk : Int)) := by have h := HR.out.ia.cell q (by omega); rw [h, ← hPk]; simp [List.getD, show q < F.size by omega]
            obtain ⟨ad, rfl, A0⟩ := (HSL5.out.below HR.out.o1.below).at kk hkk
            have HLe : Hid (L.getD (F.toList.getD q 0).toNat en0 = L.getD kk en0) := by show _ = _; rw [hPk, Int.toNat_natCast]
            have hld := run_ld28 A0
            obtain ⟨e, He⟩ : ∃ e, Hid (L.getD kk en0 = e) := ⟨_, rfl⟩
            rw [He.out] at hld A0 HLe
            have HAE : Hid (∀ W, Below w5.heap.size w5 W → EnAt W (ad.add (kk * 4)) e) := fun W hW => by have h := (HSL5.out.below hW).2.2.1 ad rfl kk hkk; rwa [He.out] at h
            clear A0 hPk hFs
            obtain ⟨t2, Ht2⟩ : ∃ t2, ((q : Int)).tmod 2 = t2 := ⟨_, rfl⟩
            have hwt2 : IntKind.i64.wrap t2 = t2 := by
              have h1 : ((q : Int).tmod 2).natAbs < 2 := by rw [Int.natAbs_tmod]; exact Nat.mod_lt _ (by decide)
              rw [← Ht2, IntKind.wrap_i64]; omega
            have O1 := HR.out.o1
            by_cases hqm : q < m
            · obtain ⟨pd, rfl, cp⟩ := (HNS.out.below O1.below).2 q hqm
              obtain ⟨z, Hz⟩ : ∃ z, Hid (Z.getD q 0 = z) := ⟨_, rfl⟩
              have HCP : Hid (∀ W, Below w5.heap.size w5 W → W.cell? (pd.add q) = some (.int .i64 z)) := fun W hW => by obtain ⟨pd', e', c'⟩ := (HNS.out.below hW).2 q hqm; obtain rfl := Option.some.inj e'; rw [← Hz.out]; exact c'
              obtain ⟨t5, Ht5⟩ : ∃ t5, z.tmod 5 = t5 := ⟨_, rfl⟩
              have hwt5 : IntKind.i64.wrap t5 = t5 := by
                have h1 : (z.tmod 5).natAbs < 5 := by rw [Int.natAbs_tmod]; exact Nat.mod_lt _ (by decide)
                rw [← Ht5, IntKind.wrap_i64]; omega
              clear cp
              by_cases hz5 : t5 = 0
              · have h50 : (t5 == 0) = true := by simpa using hz5
                clear hz5
                by_cases hev : t2 = 0
                · have h20 : (t2 == 0) = true := by simpa using hev
                  clear hev
                  go_wp2_with (first | (at_builtin; refine O1.append2 e _ rfl (by omega) rfl (.tmp 114) (.tmp 119) rfl Mx.length rfl rfl rfl ?_; intro g7 c7 w7 O7 hk7 hl7; have HR7 := hide (HR.out.push O7 hk7 hl7); have hld7 := run_ld28 (HAE.out w7 O7.below); have cp7 := HCP.out w7 O7.below; clear O7 hk7 hl7) | (at_builtin; refine HR7.out.o1.append2 e _ rfl (by simp; omega) rfl (.tmp 133) (.tmp 138) rfl (Mx.length + 1) (by simp) rfl rfl ?_; intro g8 c8 w8 O8 hk8 hl8; have HR8 := hide (HR7.out.push O8 hk8 hl8); have hld8 := run_ld28 (HAE.out w8 O8.below); clear O8 hk8 hl8 hld7) | (at_builtin; refine HR8.out.rot.o1.append2 e _ rfl (by omega) rfl (.tmp 143) (.tmp 148) rfl Le.length rfl rfl rfl ?_; intro g9 c9 w9 O9 hk9 hl9; have HR9 := hide ((HR8.out.rot.push O9 hk9 hl9).rot.rot); clear O9 hk9 hl9))
                  have hMI : MI L F.toList (q + 1) (Mx ++ [e] ++ [e]) (Le ++ [e]) Ri := HM.out.step HLe.out (fun x => by simp) (fun x => by simp [or_assoc, or_comm]) (by simp; omega)
                  have HMI := hide hMI
                  clear hMI
                  go_roundw
                  case rel => exact ⟨q + 1, some ⟨g8, 0, none⟩, c8, (Mx ++ [e] ++ [e]), some ⟨g9, 0, none⟩, c9, Le ++ [e], b3, d3, Ri, by omega, by simp, by simp, by simp, by go_num, HR9, HMI⟩
                  case measure => simp [intOf]; omega
                · have h20 : (t2 == 0) = false := by simpa using hev
                  clear hev
                  go_wp2_with (first | (at_builtin; refine O1.append2 e _ rfl (by omega) rfl (.tmp 114) (.tmp 119) rfl Mx.length rfl rfl rfl ?_; intro g7 c7 w7 O7 hk7 hl7; have HR7 := hide (HR.out.push O7 hk7 hl7); have hld7 := run_ld28 (HAE.out w7 O7.below); have cp7 := HCP.out w7 O7.below; clear O7 hk7 hl7) | (at_builtin; refine HR7.out.o1.append2 e _ rfl (by simp; omega) rfl (.tmp 133) (.tmp 138) rfl (Mx.length + 1) (by simp) rfl rfl ?_; intro g8 c8 w8 O8 hk8 hl8; have HR8 := hide (HR7.out.push O8 hk8 hl8); have hld8 := run_ld28 (HAE.out w8 O8.below); clear O8 hk8 hl8 hld7) | (at_builtin; refine HR8.out.rot.rot.o1.append2 e _ rfl (by omega) rfl (.tmp 150) (.tmp 155) rfl Ri.length rfl rfl rfl ?_; intro g9 c9 w9 O9 hk9 hl9; have HR9 := hide ((HR8.out.rot.rot.push O9 hk9 hl9).rot); clear O9 hk9 hl9))
                  have hMI : MI L F.toList (q + 1) (Mx ++ [e] ++ [e]) Le (Ri ++ [e]) := HM.out.step HLe.out (fun x => by simp) (fun x => by simp [or_comm, or_left_comm]) (by simp; omega)
                  have HMI := hide hMI
                  clear hMI
                  go_roundw
                  case rel => exact ⟨q + 1, some ⟨g8, 0, none⟩, c8, (Mx ++ [e] ++ [e]), b2, d2, Le, some ⟨g9, 0, none⟩, c9, Ri ++ [e], by omega, by simp, by simp, by simp, by go_num, HR9, HMI⟩
                  case measure => simp [intOf]; omega
              · have h50 : (t5 == 0) = false := by simpa using hz5
                clear hz5
                by_cases hev : t2 = 0
                · have h20 : (t2 == 0) = true := by simpa using hev
                  clear hev
                  go_wp2_with (first | (at_builtin; refine O1.append2 e _ rfl (by omega) rfl (.tmp 114) (.tmp 119) rfl Mx.length rfl rfl rfl ?_; intro g7 c7 w7 O7 hk7 hl7; have HR7 := hide (HR.out.push O7 hk7 hl7); have hld7 := run_ld28 (HAE.out w7 O7.below); have cp7 := HCP.out w7 O7.below; clear O7 hk7 hl7) | (at_builtin; refine HR7.out.rot.o1.append2 e _ rfl (by omega) rfl (.tmp 143) (.tmp 148) rfl Le.length rfl rfl rfl ?_; intro g9 c9 w9 O9 hk9 hl9; have HR9 := hide ((HR7.out.rot.push O9 hk9 hl9).rot.rot); clear O9 hk9 hl9))
                  have hMI : MI L F.toList (q + 1) (Mx ++ [e]) (Le ++ [e]) Ri := HM.out.step HLe.out (fun x => by simp) (fun x => by simp [or_assoc, or_comm]) (by simp; omega)
                  have HMI := hide hMI
                  clear hMI
                  go_roundw
                  case rel => exact ⟨q + 1, some ⟨g7, 0, none⟩, c7, (Mx ++ [e]), some ⟨g9, 0, none⟩, c9, Le ++ [e], b3, d3, Ri, by omega, by simp, by simp, by simp, by go_num, HR9, HMI⟩
                  case measure => simp [intOf]; omega
                · have h20 : (t2 == 0) = false := by simpa using hev
                  clear hev
                  go_wp2_with (first | (at_builtin; refine O1.append2 e _ rfl (by omega) rfl (.tmp 114) (.tmp 119) rfl Mx.length rfl rfl rfl ?_; intro g7 c7 w7 O7 hk7 hl7; have HR7 := hide (HR.out.push O7 hk7 hl7); have hld7 := run_ld28 (HAE.out w7 O7.below); have cp7 := HCP.out w7 O7.below; clear O7 hk7 hl7) | (at_builtin; refine HR7.out.rot.rot.o1.append2 e _ rfl (by omega) rfl (.tmp 150) (.tmp 155) rfl Ri.length rfl rfl rfl ?_; intro g9 c9 w9 O9 hk9 hl9; have HR9 := hide ((HR7.out.rot.rot.push O9 hk9 hl9).rot); clear O9 hk9 hl9))
                  have hMI : MI L F.toList (q + 1) (Mx ++ [e]) Le (Ri ++ [e]) := HM.out.step HLe.out (fun x => by simp) (fun x => by simp [or_comm, or_left_comm]) (by simp; omega)
                  have HMI := hide hMI
                  clear hMI
                  go_roundw
                  case rel => exact ⟨q + 1, some ⟨g7, 0, none⟩, c7, (Mx ++ [e]), b2, d2, Le, some ⟨g9, 0, none⟩, c9, Ri ++ [e], by omega, by simp, by simp, by simp, by go_num, HR9, HMI⟩
                  case measure => simp [intOf]; omega
            · have hqk : ¬ q < m := hqm
              clear hqm
              by_cases hev : t2 = 0
              · have h20 : (t2 == 0) = true := by simpa using hev
                clear hev
                go_wp2_with (first | (at_builtin; refine O1.append2 e _ rfl (by omega) rfl (.tmp 114) (.tmp 119) rfl Mx.length rfl rfl rfl ?_; intro g7 c7 w7 O7 hk7 hl7; have HR7 := hide (HR.out.push O7 hk7 hl7); have hld7 := run_ld28 (HAE.out w7 O7.below); skip; clear O7 hk7 hl7) | (at_builtin; refine HR7.out.rot.o1.append2 e _ rfl (by omega) rfl (.tmp 143) (.tmp 148) rfl Le.length rfl rfl rfl ?_; intro g9 c9 w9 O9 hk9 hl9; have HR9 := hide ((HR7.out.rot.push O9 hk9 hl9).rot.rot); clear O9 hk9 hl9))
                have hMI : MI L F.toList (q + 1) (Mx ++ [e]) (Le ++ [e]) Ri := HM.out.step HLe.out (fun x => by simp) (fun x => by simp [or_assoc, or_comm]) (by simp; omega)
                have HMI := hide hMI
                clear hMI
                go_roundw
                case rel => exact ⟨q + 1, some ⟨g7, 0, none⟩, c7, (Mx ++ [e]), some ⟨g9, 0, none⟩, c9, Le ++ [e], b3, d3, Ri, by omega, by simp, by simp, by simp, by go_num, HR9, HMI⟩
                case measure => simp [intOf]; omega
              · have h20 : (t2 == 0) = false := by simpa using hev
                clear hev
                go_wp2_with (first | (at_builtin; refine O1.append2 e _ rfl (by omega) rfl (.tmp 114) (.tmp 119) rfl Mx.length rfl rfl rfl ?_; intro g7 c7 w7 O7 hk7 hl7; have HR7 := hide (HR.out.push O7 hk7 hl7); have hld7 := run_ld28 (HAE.out w7 O7.below); skip; clear O7 hk7 hl7) | (at_builtin; refine HR7.out.rot.rot.o1.append2 e _ rfl (by omega) rfl (.tmp 150) (.tmp 155) rfl Ri.length rfl rfl rfl ?_; intro g9 c9 w9 O9 hk9 hl9; have HR9 := hide ((HR7.out.rot.rot.push O9 hk9 hl9).rot); clear O9 hk9 hl9))
                have hMI : MI L F.toList (q + 1) (Mx ++ [e]) Le (Ri ++ [e]) := HM.out.step HLe.out (fun x => by simp) (fun x => by simp [or_comm, or_left_comm]) (by simp; omega)
                have HMI := hide hMI
                clear hMI
                go_roundw
                case rel => exact ⟨q + 1, some ⟨g7, 0, none⟩, c7, (Mx ++ [e]), b2, d2, Le, some ⟨g9, 0, none⟩, c9, Ri ++ [e], by omega, by simp, by simp, by simp, by go_num, HR9, HMI⟩
                case measure => simp [intOf]; omega
          · obtain rfl : q = k := by omega
            have hPP := HP.out
            rw [← HL.out] at hPP
            have hMM := HM.out
            rw [← HL.out] at hMM
            obtain ⟨hmx, hha⟩ := hMM.done hPP
            have HMX := hide hmx
            have HHA := hide hha
            have hsk : ∀ x ∈ L, x.sku.size ≤ maxLen := HS.out.2.2.2.1
            have HS1 := hide (HR.out.o1.src (fun x hx => hsk x ((hmx x).1 hx)) (by omega)).1
            have HS2 := hide (HR.out.o2.src (fun x hx => hsk x ((hha x).1 (Or.inl hx))) (by omega)).1
            have HS3 := hide (HR.out.o3.src (fun x hx => hsk x ((hha x).1 (Or.inr hx))) (by omega)).1
            have HW6 := hide HR.out.o1.below
            clear hPP hMM hmx hha hsk HR HM hmn
            go_wp2_with fail
            refine (sort_any b1 Mx.length d1 Mx _ HS1.out).mono ?_
            rintro y w8 ⟨a8, n8, c8, R8, er8, rfl, S8, b8, f8, t8⟩
            obtain ⟨h8, h8'⟩ := t8.unique (sorted_mk (fun e he => HCE.out e ((HMX.out e).1 he)) (fun h => HCL.out (h.sub (fun x hx => (HMX.out x).1 hx))) HASC.out (fun x => (HMEM.out x).trans (HMX.out x).symm))
            obtain rfl := h8.symm
            subst h8'
            have HW8 := hide (HW6.out.trans (b8.mono HW6.out.size))
            have HS8 := hide S8
            have HS2' := hide (HS2.out.below b8)
            have HS3' := hide (HS3.out.below b8)
            have HOK : Hid (okN R R.length = true) := chk_zero HCK.out
            clear S8 b8 f8 t8 HS1 HS2 HS3 HW6
            go_wp2_with fail
            refine (entriesOK_any a5 n5 c5 R _ (HS5.out.below HW8.out)).mono ?_
            rintro y w9 ⟨rfl, b9⟩
            rw [HOK.out]
            have HW9 := hide (HW8.out.trans (b9.mono HW8.out.size))
            have HS9 := hide (HS8.out.below b9)
            have HS2 := hide (HS2'.out.below b9)
            have HS3 := hide (HS3'.out.below b9)
            clear b9 HS8 HS2' HS3' HW8
            go_wp2_with fail
            refine (sameEntries_any a8 a5 n8 c8 n5 c5 _ _ _ HS9.out (HS5.out.below HW9.out) rfl).mono ?_
            rintro y w10 ⟨rfl, b10⟩
            have HW10 := hide (HW9.out.trans (b10.mono HW9.out.size))
            have HS2' := hide (HS2.out.below b10)
            have HS3' := hide (HS3.out.below b10)
            clear b10 HS9 HS2 HS3 HW9
            go_wp2_with fail
            refine (sort_any b2 Le.length d2 Le _ HS2'.out).mono ?_
            rintro y w11 ⟨a11, n11, c11, X, er11, rfl, S11, b11, f11, t11⟩
            obtain ⟨h11, ax, mx⟩ := sorted_good (fun e he => HCE.out e ((HHA.out e).1 (Or.inl he))) (fun h => HCL.out (h.sub (fun x hx => (HHA.out x).1 (Or.inl hx)))) t11
            subst h11
            have HAX := hide ax
            have HMXx := hide mx
            have HS11 := hide S11
            have HS3 := hide (HS3'.out.below b11)
            have HW11 := hide (HW10.out.trans (b11.mono HW10.out.size))
            clear S11 b11 f11 t11 ax mx HW10 HS3' HS2'
            go_wp2_with fail
            refine (sort_any b3 Ri.length d3 Ri _ HS3.out).mono ?_
            rintro y w12 ⟨a12, n12, c12, Y, er12, rfl, S12, b12, f12, t12⟩
            obtain ⟨h12, ay, my⟩ := sorted_good (fun e he => HCE.out e ((HHA.out e).1 (Or.inr he))) (fun h => HCL.out (h.sub (fun x hx => (HHA.out x).1 (Or.inr hx)))) t12
            subst h12
            have HXY : Hid (∀ x, x ∈ R ↔ x ∈ X ∨ x ∈ Y) := fun x => by rw [HMEM.out x, HMXx.out x, my x]; exact (HHA.out x).symm
            have HAY := hide ay
            have HS12 := hide S12
            have HS11' := hide (HS11.out.below b12)
            have HW12 := hide (HW11.out.trans (b12.mono HW11.out.size))
            clear S12 b12 f12 t12 ay my HW11 HS11 HMXx HS3
            go_wp2_with fail
            refine (union_any a11 a12 n11 c11 n12 c12 X Y _ HS11'.out HS12.out).mono ?_
            rintro y w13 ⟨a13, n13, c13, U, er13, rfl, S13, b13, t13⟩
            obtain ⟨h13, hU⟩ := union_of HAX.out HAY.out HCR.out HASC.out HXY.out t13
            subst h13
            obtain rfl := hU.symm
            have HS13 := hide S13
            have HW13 := hide (HW12.out.trans (b13.mono HW12.out.size))
            clear S13 b13 t13 HW12 HS11' HS12 hU
            go_wp2_with fail
            refine (sameEntries_any a13 a5 n13 c13 n5 c5 _ _ _ HS13.out (HS5.out.below HW13.out) rfl).mono ?_
            rintro y w14 ⟨rfl, b14⟩
            have HW14 := hide (HW13.out.trans (b14.mono HW13.out.size))
            clear b14 HW13 HS13
            go_wp2_with fail
            refine (addUp_any a5 n5 c5 R _ (HS5.out.below HW14.out) HCK.out).mono ?_
            rintro y w15 ⟨rfl, b15⟩
            have HW15 := hide (HB3.out.trans ((HB5.out.trans ((HW14.out.trans (b15.mono HW14.out.size)).mono HB5.out.size)).mono HB3.out.size))
            clear b15 HW14
            go_wp2_with fail
            go_ret
            exact ⟨rfl, HW15.out⟩
end Go.Proofs.Ytmhdhedjeaaciaa
