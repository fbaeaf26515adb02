/- LinesFolds: the law's walk. -/
import Derived.Test.YtmhdhedjeaaciaaLFp
import Derived.Test.YtmhdhedjeaaciaaLAw
import Derived.Test.YtmhdhedjeaaciaaLFnd
namespace Go.Proofs.Ytmhdhedjeaaciaa
open Go.RowKit
attribute [local go_sem ↓] ld28_eq st28_eq ld26_eq ldL_eq stL_eq
attribute [local go_sem] zero_EC cells_EV EC_size zero_LC cells_LV LC_size

theorem ix_far {B : List En} {x : En} {k : Int} (h : IxOf B x k) (hb : fdB k = false) : ∀ y ∈ B, sameDot y x = false := by
  rcases h with ⟨_, h⟩ | ⟨i, _, rfl, _⟩
  · intro y hy
    obtain ⟨j, hj, rfl⟩ := List.getElem_of_mem hy
    have := h j hj
    rwa [show B.getD j en0 = B[j] by simp [List.getD, hj]] at this
  · simp [fdB] at hb
theorem getD_in (L : List En) (n k : Nat) (hL : L.length = n) (h : k < n) : L.getD k en0 ∈ L := by
  subst hL
  rw [show L.getD k en0 = L[k] by simp [List.getD, h]]
  exact List.getElem_mem _
set_option maxRecDepth 100000 in
set_option maxHeartbeats 16000000 in
theorem folds_any (ao : Option Addr) (n cap : Nat) (A : List En) (bo : Option Addr) (m cb : Nat) (B : List En) (w : World) (hA : ESrc w ao n cap A) (hB : ESrc w bo m cb B) :
    Calls Try.prog 5 #[.slice ao n cap, .slice bo m cb] w fun y w' => y = .returned (.bool true) ∧ Below w.heap.size w w' := by
  have HA := hide hA
  have HB := hide hB
  have HLA : Hid (A.length = n) := hA.1
  have HLB : Hid (B.length = m) := hB.1
  have hn := hA.2.2.2.2
  have hm := hB.2.2.2.2
  clear hA hB
  go_enter Try.func5, Try.ntmps5
  go_wp2_with fail
  refine (awake_any _).mono ?_
  rintro y w1 ⟨rfl, b1⟩
  have B1 := hide b1
  clear b1
  go_wp2_with fail
  refine (refCheckL_any ao n cap A _ (HA.out.below B1.out)).mono ?_
  rintro y w2 ⟨rfl, b2⟩
  have B2 := hide (B1.out.trans (b2.mono B1.out.size))
  clear b2 B1
  rcases chk_c A with ha | ha
  · rw [ha]
    have HCA := hide ha
    clear ha
    go_wp2_with fail
    refine (refCheckL_any bo m cb B _ (HB.out.below B2.out)).mono ?_
    rintro y w3 ⟨rfl, b3⟩
    have B3 := hide (B2.out.trans (b3.mono B2.out.size))
    have HA3 := hide (HA.out.below B3.out)
    have HB3 := hide (HB.out.below B3.out)
    clear b3 B2
    rcases chk_c B with hb | hb
    · rw [hb]
      have HCB := hide hb
      clear hb
      go_wp2_with fail
      go_loopw [37] (fun i wr => ∃ k : Nat, k ≤ n ∧ i = .int .i64 k ∧ Hid (Below w3.heap.size w3 wr) ∧ Hid (∀ x ∈ A.take k, ∀ y ∈ B, sameDot y x = false)) (fun i _ => n - (intOf i).toNat)
      case atStart => exact ⟨0, Nat.zero_le _, rfl, Below.refl _ _, fun x hx => by simp at hx⟩
      case round =>
        obtain ⟨k, hk, rfl, HW, HF⟩ := hrel
        by_cases hlt : k < n
        · obtain ⟨ad, rfl, A0⟩ := (HA3.out.below HW.out).at k hlt
          have hld := run_ld28 A0
          have HT := hide (take_snoc A k (by rw [HLA.out]; exact hlt))
          obtain ⟨e, He⟩ : ∃ e, Hid (A.getD k en0 = e) := ⟨_, rfl⟩
          rw [He.out] at hld A0 HT
          obtain ⟨wk, hst, X1, B1', Z1⟩ := made wr e wr.heap.size rfl
          have HWK := hide (HW.out.trans (B1'.mono HW.out.size))
          have lD := run_ld26 X1.at
          clear X1 B1' A0 Z1
          go_wp2_with fail
          refine (refFind_any bo m cb B e _ (HB3.out.below HWK.out)).mono ?_
          rintro y w5 ⟨kk, rfl, hix, b5⟩
          have HIX := hide hix
          have HW5 := hide (HWK.out.trans (b5.mono HWK.out.size))
          clear b5 hix lD hst hld
          obtain ⟨f, Hf⟩ : ∃ f, Hid (fdE B kk = f) := ⟨_, rfl⟩
          obtain ⟨q, Hq⟩ : ∃ q, Hid (fdB kk = q) := ⟨_, rfl⟩
          rw [Hf.out, Hq.out]
          obtain ⟨w6, hst6, X6, B6, Z6⟩ := made w5 f w5.heap.size rfl
          have HW6 := hide (HW5.out.trans (B6.mono HW5.out.size))
          clear X6 B6 Z6
          cases q with
          | true =>
            have HWW := hide (B3.out.trans (HW6.out.mono B3.out.size))
            go_wp2_with fail
            go_ret
            exact ⟨rfl, HWW.out⟩
          | false =>
            have HN : Hid (∀ x ∈ A.take (k + 1), ∀ y ∈ B, sameDot y x = false) := fun x hx => by
              rw [HT.out] at hx
              rcases List.mem_append.1 hx with h | h
              · exact HF.out x h
              · simp at h; subst h; exact ix_far HIX.out Hq.out
            go_wp2_with fail
            go_roundw
            case rel => exact ⟨k + 1, by omega, by go_num, HW6, HN⟩
            case measure => simp [intOf]; omega
        · obtain rfl : k = n := by omega
          have HFAR : Hid (Far A B) := by
            show ∀ x ∈ A, _
            have h := HF.out
            rwa [List.take_of_length_le (by rw [HLA.out]; exact Nat.le_refl _)] at h
          have HA4 := hide (HA3.out.below HW.out)
          have HB4 := hide (HB3.out.below HW.out)
          have HW4 := hide (B3.out.trans (HW.out.mono B3.out.size))
          clear HF HW
          go_wp2_with fail
          refine (union_any ao bo k cap m cb A B _ HA4.out HB4.out).mono ?_
          rintro y w7 ⟨a7, n7, c7, U, er7, rfl, S7, b7, t7⟩
          obtain ⟨h7, hFo⟩ := folds_of HCA.out HCB.out HFAR.out t7
          subst h7
          have HFO := hide hFo
          have HS7 := hide S7
          have HLU : Hid (U.length = n7) := S7.1
          have hn7 := S7.2.2.2.2
          have hnn : n7 = k + m := by rw [← S7.1, hFo.len, HLA.out, HLB.out]
          have hka := chk_len HCA.out
          have hkb := chk_len HCB.out
          rw [HLA.out] at hka
          rw [HLB.out] at hkb
          have hw7 : IntKind.i64.wrap ((k : Int) + (m : Int)) = (n7 : Int) := by rw [IntKind.wrap_i64]; omega
          have HA7 := hide (HA4.out.below b7)
          have HB7 := hide (HB4.out.below b7)
          have HW7 := hide (HW4.out.trans (b7.mono HW4.out.size))
          clear S7 b7 t7 hFo HA4 HB4 HW4 hnn
          go_wp2_with fail
          refine (lcheck_any a7 n7 c7 U _ HS7.out).mono ?_
          rintro y w8 ⟨rfl, b8⟩
          rw [HFO.out.chk]
          have HA8 := hide (HA7.out.below b8)
          have HB8 := hide (HB7.out.below b8)
          have HS8 := hide (HS7.out.below b8)
          have HW8 := hide (HW7.out.trans (b8.mono HW7.out.size))
          clear b8 HA7 HB7 HS7 HW7
          go_wp2_with fail
          go_loopw [75] (fun i wr2 => ∃ j : Nat, j ≤ n7 ∧ i = .int .i64 j ∧ Hid (Below w8.heap.size w8 wr2)) (fun i _ => n7 - (intOf i).toNat)
          case atStart => exact ⟨0, Nat.zero_le _, rfl, Below.refl _ _⟩
          case round =>
            obtain ⟨j, hj, rfl, HW9⟩ := hrel
            by_cases hjl : j < n7
            · obtain ⟨ad, rfl, A0⟩ := (HS8.out.below HW9.out).at j hjl
              have hld := run_ld28 A0
              have hmem := getD_in U n7 j HLU.out hjl
              have hgd := ce_good (chk_ce HFO.out.chk _ hmem)
              have hsk := HS8.out.2.2.2.1 _ hmem
              obtain ⟨e, He⟩ : ∃ e, Hid (U.getD j en0 = e) := ⟨_, rfl⟩
              rw [He.out] at hld A0 hgd hsk
              have oA := of_good HCA.out hgd
              have oB := of_good HCB.out hgd
              have oU := of_good HFO.out.chk hgd
              have hq := HFO.out.q e.sku
              have hp := HFO.out.p e.sku
              have bA := line_bd A (chk_all HCA.out) e.sku
              have bB := line_bd B (chk_all HCB.out) e.sku
              rw [HLA.out] at bA
              rw [HLB.out] at bB
              obtain ⟨la, Hla⟩ : ∃ l, Hid (lineOf A e.sku = l) := ⟨_, rfl⟩
              obtain ⟨lb, Hlb⟩ : ∃ l, Hid (lineOf B e.sku = l) := ⟨_, rfl⟩
              obtain ⟨lu, Hlu⟩ : ∃ l, Hid (lineOf U e.sku = l) := ⟨_, rfl⟩
              rw [Hla.out] at oA hq hp bA
              rw [Hlb.out] at oB hq hp bB
              rw [Hlu.out] at oU hq hp
              have HOA := hide oA
              have HOB := hide oB
              have HOU := hide oU
              have HSK := hide hsk
              have hw1 : IntKind.i64.wrap (la.qty + lb.qty) = lu.qty := by rw [IntKind.wrap_i64]; omega
              have hw2 : IntKind.i64.wrap (la.parts + lb.parts) = lu.parts := by rw [IntKind.wrap_i64]; omega
              obtain ⟨wk, hst, X1, B1', Z1⟩ := made wr e wr.heap.size rfl
              have HX := hide X1
              have HWK := hide (HW9.out.trans (B1'.mono HW9.out.size))
              have c2 : wk.cell? ⟨wr.heap.size, 2, none⟩ = some (.string e.sku) := by have h := X1.at.c2; simpa [Addr.add] using h
              clear X1 B1' A0 Z1 hmem hgd hsk oA oB oU bA bB hq hp
              go_wp2_with fail
              have HV0 := HWK
              have HX0 := HX
              refine (line_any ao k cap A e.sku _ (HA8.out.below HV0.out) HSK.out).mono ?_
              rintro y v1 ⟨rfl, b⟩
              rw [HOA.out.1, HOA.out.2]
              obtain ⟨u1, hst1, X, BX, ZX⟩ := madeL v1 la v1.heap.size rfl
              have HV1 := hide ((HV0.out.trans (b.mono HV0.out.size)).trans (BX.mono (Nat.le_trans HV0.out.size b.size)))
              have HX1 := hide ((HX0.out.below b).below BX)
              have HL1_1 := hide X
              have c2 : u1.cell? ⟨wr.heap.size, 2, none⟩ = some (.string e.sku) := by have h := HX1.out.at.c2; simpa [Addr.add] using h
              clear X BX ZX b
              go_wp2_with fail
              refine (line_any bo m cb B e.sku _ (HB8.out.below HV1.out) HSK.out).mono ?_
              rintro y v2 ⟨rfl, b⟩
              rw [HOB.out.1, HOB.out.2]
              obtain ⟨u2, hst2, X, BX, ZX⟩ := madeL v2 lb v2.heap.size rfl
              have HV2 := hide ((HV1.out.trans (b.mono HV1.out.size)).trans (BX.mono (Nat.le_trans HV1.out.size b.size)))
              have HX2 := hide ((HX1.out.below b).below BX)
              have HL1_2 := hide ((HL1_1.out.below b).below BX)
              have HL2_2 := hide X
              have c2 : u2.cell? ⟨wr.heap.size, 2, none⟩ = some (.string e.sku) := by have h := HX2.out.at.c2; simpa [Addr.add] using h
              clear X BX ZX b
              go_wp2_with fail
              refine (line_any (some ad) n7 c7 U e.sku _ (HS8.out.below HV2.out) HSK.out).mono ?_
              rintro y v3 ⟨rfl, b⟩
              rw [HOU.out.1, HOU.out.2]
              obtain ⟨u3, hst3, X, BX, ZX⟩ := madeL v3 lu v3.heap.size rfl
              have HV3 := hide ((HV2.out.trans (b.mono HV2.out.size)).trans (BX.mono (Nat.le_trans HV2.out.size b.size)))
              have HX3 := hide ((HX2.out.below b).below BX)
              have HL1_3 := hide ((HL1_2.out.below b).below BX)
              have HL2_3 := hide ((HL2_2.out.below b).below BX)
              have HL3_3 := hide X
              have c2 : u3.cell? ⟨wr.heap.size, 2, none⟩ = some (.string e.sku) := by have h := HX3.out.at.c2; simpa [Addr.add] using h
              clear X BX ZX b
              have q1 : u3.cell? ⟨v1.heap.size, 1, none⟩ = some (.int .i64 la.qty) := by have h := HL1_3.out.at.c1; simpa [Addr.add] using h
              have p1 : u3.cell? ⟨v1.heap.size, 2, none⟩ = some (.int .i64 la.parts) := by have h := HL1_3.out.at.c2; simpa [Addr.add] using h
              have q2 : u3.cell? ⟨v2.heap.size, 1, none⟩ = some (.int .i64 lb.qty) := by have h := HL2_3.out.at.c1; simpa [Addr.add] using h
              have p2 : u3.cell? ⟨v2.heap.size, 2, none⟩ = some (.int .i64 lb.parts) := by have h := HL2_3.out.at.c2; simpa [Addr.add] using h
              have q3 : u3.cell? ⟨v3.heap.size, 1, none⟩ = some (.int .i64 lu.qty) := by have h := HL3_3.out.at.c1; simpa [Addr.add] using h
              have p3 : u3.cell? ⟨v3.heap.size, 2, none⟩ = some (.int .i64 lu.parts) := by have h := HL3_3.out.at.c2; simpa [Addr.add] using h
              clear hst hld
              go_wp2_with fail
              go_roundw
              case rel => exact ⟨j + 1, by omega, by go_num, HV3⟩
              case measure => simp [intOf]; omega
            · obtain rfl : j = n7 := by omega
              have HTA : Hid (totV A = ttl A) := by show _ = _; rw [totV, if_pos HCA.out]
              have HTB : Hid (totV B = ttl B) := by show _ = _; rw [totV, if_pos HCB.out]
              have HTU : Hid (totV U = ttl U) := by show _ = _; rw [totV, if_pos HFO.out.chk]
              have bA := ttl_bd A (chk_all HCA.out)
              have bB := ttl_bd B (chk_all HCB.out)
              rw [HLA.out] at bA
              rw [HLB.out] at bB
              have hw1 : IntKind.i64.wrap (ttl A + ttl B) = ttl U := by rw [HFO.out.t, IntKind.wrap_i64]; omega
              obtain ⟨ta, Hta⟩ : ∃ t, Hid (ttl A = t) := ⟨_, rfl⟩
              obtain ⟨tb, Htb⟩ : ∃ t, Hid (ttl B = t) := ⟨_, rfl⟩
              obtain ⟨tu, Htu⟩ : ∃ t, Hid (ttl U = t) := ⟨_, rfl⟩
              rw [Hta.out] at hw1 HTA
              rw [Htb.out] at hw1 HTB
              rw [Htu.out] at hw1 HTU
              have HA9 := hide (HA8.out.below HW9.out)
              have HB9 := hide (HB8.out.below HW9.out)
              have HS9 := hide (HS8.out.below HW9.out)
              have HW10 := hide (HW8.out.trans (HW9.out.mono HW8.out.size))
              clear bA bB HW9
              go_wp2_with fail
              refine (total_any ao k cap A _ HA9.out).mono ?_
              rintro y w11 ⟨rfl, b11⟩
              rw [HTA.out, HCA.out]
              have HB11 := hide (HB9.out.below b11)
              have HS11 := hide (HS9.out.below b11)
              have HW11 := hide (HW10.out.trans (b11.mono HW10.out.size))
              clear b11
              go_wp2_with fail
              refine (total_any bo m cb B _ HB11.out).mono ?_
              rintro y w12 ⟨rfl, b12⟩
              rw [HTB.out, HCB.out]
              have HS12 := hide (HS11.out.below b12)
              have HW12 := hide (HW11.out.trans (b12.mono HW11.out.size))
              clear b12
              go_wp2_with fail
              refine (total_any a7 j c7 U _ HS12.out).mono ?_
              rintro y w13 ⟨rfl, b13⟩
              rw [HTU.out, HFO.out.chk]
              have HW13 := hide (HW12.out.trans (b13.mono HW12.out.size))
              clear b13
              go_wp2_with fail
              go_ret
              exact ⟨rfl, HW13.out⟩
    · rw [hb]
      clear hb
      go_wp2_with fail
      go_ret
      exact ⟨rfl, B3.out⟩
  · rw [ha]
    clear ha
    go_wp2_with fail
    go_ret
    exact ⟨rfl, B2.out⟩
end Go.Proofs.Ytmhdhedjeaaciaa
