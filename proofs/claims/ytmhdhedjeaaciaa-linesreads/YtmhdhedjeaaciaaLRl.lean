/- The reference's Lines: its contract. -/
import Derived.Test.YtmhdhedjeaaciaaLRp
import Derived.Test.YtmhdhedjeaaciaaLRr
import Derived.Test.YtmhdhedjeaaciaaLLi
import Derived.Lib.QuietBelow
namespace Go.Proofs.Ytmhdhedjeaaciaa
open Go.RowKit
attribute [local go_sem ↓] ld28_eq st28_eq ldL_eq stL_eq
attribute [local go_sem] zero_EC cells_EV EC_size zero_LC cells_LV LC_size

theorem set0_LC (t : ByteArray) : ((LC ln0).setIfInBounds 0 (.string t)) = LC ⟨t, 0, 0⟩ := rfl
attribute [local go_sem] set0_LC
theorem below_draw (w : World) : Below w.heap.size w w.drew := ⟨rfl, rfl, rfl, Nat.le_refl _, fun _ _ => rfl⟩
theorem neS {a b : ByteArray} (h : a ≠ b) : (a.toList == b.toList) = false := (eqS_no a b).2 h
theorem yesS {a b : ByteArray} (h : a = b) : (a.toList == b.toList) = true := (eqS_iff a b).2 h
theorem sorted_le {M : List En} (h : M.Pairwise (fun x y => leS x y = true)) (k : Nat) (hk : k < M.length) : ∀ x ∈ M.take k, x.sku.data.toList ≤ (M.getD k en0).sku.data.toList := by
  intro x hx
  obtain ⟨j, hj, hjl, rfl⟩ := mem_take_at hx
  have := List.pairwise_iff_getElem.1 h j k hjl hk hj
  rw [leS_iff] at this
  rw [show M.getD j en0 = M[j] by simp [List.getD, hjl], show M.getD k en0 = M[k] by simp [List.getD, hk]]
  exact this
theorem OwnL.some {B0 B : Nat} {w w' : World} {ao : Option Addr} {cap : Nat} {i : List Ln} {x : Ln} (O : OwnL B0 B w w' ao cap (i ++ [x])) : ∃ g, ao = some ⟨g, 0, none⟩ := by
  rcases O.own.2 with ⟨_, h⟩ | ⟨g, c, cur, hv, _⟩
  · simp at h
  · simp only [Value.slice.injEq] at hv
    exact ⟨g, hv.1⟩
set_option maxRecDepth 100000 in
set_option maxHeartbeats 16000000 in
theorem refLines_any (ao : Option Addr) (n cap : Nat) (L : List En) (w : World) (hS : ESrc w ao n cap L) :
    Calls Try.prog 9 #[.slice ao n cap] w fun e w' => GivesL w w' e L := by
  have HS := hide hS
  have HL : Hid (L.length = n) := hS.1
  clear hS
  go_enter Try.func9, Try.ntmps9
  go_wp2_with fail
  refine (refCheckL_any ao n cap L _ HS.out).mono ?_
  rintro x w1 ⟨rfl, b1⟩
  have B1 := hide b1
  have S1 := hide (HS.out.below b1)
  clear b1
  rcases chk_01 L with h | h
  · rw [h]
    have HC := hide h
    have hlen := chk_len h
    have hall := chk_all h
    clear h
    go_wp2_with fail
    refine (sortedS_any ao n cap L _ S1.out).mono ?_
    rintro x w2 ⟨M, hM, a2, n2, c2, rfl, S2, b2, f2⟩
    have HM := hide hM
    have HS2 := hide S2
    have HLM : Hid (M.length = n2) := S2.1
    have HA : Hid (AllOk M) := fun e he => hall e (hM.1.mem_iff.1 he)
    have hn2 : n2 ≤ 16000000000 := by rw [← S2.1, hM.1.length_eq]; exact hlen
    have B2 := hide (B1.out.trans (b2.mono B1.out.size))
    clear hM S2 b2 f2 hlen hall B1 S1
    go_wp2_with fail
    go_loopw [5, 6] (fun v i wr => ∃ (k : Nat) (ap : Option Addr) (c : Nat) (acc : List Ln), k ≤ n2 ∧ acc.length ≤ k ∧ v = .slice ap acc.length c ∧ i = .int .i64 k ∧ Hid (OwnL w2.heap.size w2.heap.size w2 wr ap c acc) ∧ Hid (LineI (M.take k) acc)) (fun _ i _ => n2 - (intOf i).toNat)
    case atStart => exact ⟨0, none, 0, [], Nat.zero_le _, Nat.zero_le _, rfl, rfl, OwnL.nil (Below.refl _ _) (Nat.le_refl _) (Nat.le_refl _), linei_start⟩
    case round =>
      obtain ⟨k, ap, c, acc, hk, hal, rfl, rfl, HO, HI⟩ := hrel
      by_cases hlt : k < n2
      · obtain ⟨ad, rfl, A0⟩ := (HS2.out.below HO.out.below).at k hlt
        have HT := hide (take_snoc M k (by rw [HLM.out]; exact hlt))
        have HLE := hide (sorted_le HM.out.2 k (by rw [HLM.out]; exact hlt))
        have hqe := HA.out _ (getD_mem M k (by rw [HLM.out]; exact hlt))
        have hsk := HS2.out.sku k hlt
        have hok : AllOk (M.take k) := fun x hx => HA.out x (List.mem_of_mem_take hx)
        obtain ⟨e, He⟩ : ∃ e, Hid (M.getD k en0 = e) := ⟨_, rfl⟩
        rw [He.out] at A0 HT HLE hqe hsk
        have hbd := line_bd (M.take k) hok e.sku
        have htl : (M.take k).length = k := by rw [List.length_take, HLM.out]; omega
        rw [htl] at hbd
        have hsp := A0.spot
        have HSP := hide hsp
        have HA0 := hide A0
        clear A0 hok htl
        by_cases hk0 : k = 0
        · obtain ⟨i, Hi⟩ : ∃ i, Hid (acc = i) := ⟨_, rfl⟩
          have hlt0 : ∀ x ∈ M.take k, x.sku.data.toList < e.sku.data.toList := by rw [hk0]; intro x hx; simp at hx
          have HNW := hide (HI.out.new e hlt0)
          clear hlt0
          subst hk0
          have hspz : ad.spot = none := by have h := HSP.out; rwa [Nat.zero_mul, add_zero] at h
          go_wp2_with fail
          refine wp_region_quiet_below (by kernel_rfl) (by kernel_rfl) ?_
          repeat (with_reducible (refine wpQuiet_step ?_); intro K hK; go_simp; (try rw [if_neg (by unfold undef; simp)]); (with_reducible (refine hK _ ?_); clear hK K))
          with_reducible (refine wpQuiet_nil ?_)
          intro _ hw'
          obtain ⟨⟨dq, osq⟩, hw''⟩ := hw'
          subst hw''
          have HO5 := hide (HO.out.later (below_regrown wr dq osq))
          have HA5 := hide (HA0.out.on (below_regrown wr dq osq))
          obtain ⟨w5, Hw5⟩ : ∃ w5, Hid (Sort.grow (redrawn wr dq) osq = w5) := ⟨_, rfl⟩
          rw [Hw5.out] at HO5 HA5 ⊢
          clear Hw5 HO
          have HA5z : Hid (EnAt w5 ad e) := by have h := HA5.out; rwa [Nat.zero_mul, add_zero] at h
          have x2 := HA5z.out.f2
          have O5 := HO5.out
          have hw1 : IntKind.i64.wrap ((acc.length : Int) + 1 - 1) = (acc.length : Int) := by rw [IntKind.wrap_i64]; omega
          have hw2 : IntKind.i64.wrap (acc.length : Int) = (acc.length : Int) := by rw [IntKind.wrap_i64]; omega
          go_wp2_with (at_builtin; refine O5.append2 ⟨e.sku, 0, 0⟩ _ rfl (by omega) rfl (.tmp 35) (.tmp 42) rfl acc.length rfl rfl rfl ?_; intro g c6 w6 O6 hk6 hl6)
          have HA6 : Hid (EnAt w6 (ad.add (0 * 4)) e) := by have h := HS2.out.2.2.1 ad rfl 0 hlt; rw [He.out] at h; exact h.on O6.below
          obtain ⟨x, Hx⟩ : ∃ x : Ln, Hid (x = ⟨e.sku, 0, 0⟩) := ⟨_, rfl⟩
          have O6' := O6
          rw [← Hx.out] at O6'
          have HX : Hid (x.sku = e.sku ∧ x.qty = (lineOf (M.take 0) e.sku).qty ∧ x.parts = (lineOf (M.take 0) e.sku).parts) := by show _ ∧ _; rw [HNW.out.1, Hx.out]; exact ⟨rfl, rfl, rfl⟩
          have hxq : 0 ≤ x.qty ∧ x.qty ≤ 16000000000000000 := by rw [Hx.out]; simp
          have hxp : 0 ≤ x.parts ∧ x.parts ≤ 16000000000 := by rw [Hx.out]; simp
          clear x2 O5 hw1 hw2 HO5 HA5 hk6 hl6 O6 hbd
          have O6 := hide O6'
          clear O6'
          obtain ⟨t, Ht⟩ : ∃ t, Hid (acc.length = t) := ⟨_, rfl⟩
          have HE6 := hide O6.out.ends
          rw [Ht.out] at HE6 ⊢
          have htk : t ≤ 0 := by rw [← Ht.out]; omega
          have O7 := (O6.out.later (below_draw _)).setEnd (y := ⟨x.sku, x.qty + e.qty, x.parts⟩) 1 (.int .i64 (x.qty + e.qty)) (by omega) rfl
          rw [Ht.out] at O7
          refine region11 g (t + 1) c6 n2 c2 0 t ad x.qty e.qty (x.qty + e.qty) _ _ _ _ _ _ _ _ _ _ _ _ _ _ _ _ _ _ _ _ _ _ _ _ _ _ _ _ _ _ _ _ _ _ _ _ _ _ _ _ _ _ _ _ _ _ _ _ _ _ _ _ _ _ _ _ _ _ _ _ _ _ _ _ _ _ _ _ _ _ (by omega) hlt (by omega) (by omega) HSP.out HE6.out.1 O7.2 HA6.out.f3 (by rw [IntKind.wrap_i64]; omega) ?_
          have E7 := O7.1.ends
          rw [Ht.out] at E7
          obtain ⟨w7, Hw7⟩ : ∃ w7, Hid (w6.drew.setCell ⟨g, t * 3 + 1, none⟩ (.int .i64 (x.qty + e.qty)) = w7) := ⟨_, rfl⟩
          rw [Hw7.out] at O7 E7 ⊢
          have O8 := O7.1.setEnd (y := ⟨x.sku, x.qty + e.qty, x.parts + 1⟩) 2 (.int .i64 (x.parts + 1)) (by omega) rfl
          rw [Ht.out] at O8
          have c8 := E7.2
          have f8 := O8.2
          have hwp : IntKind.i64.wrap (x.parts + 1) = x.parts + 1 := by rw [IntKind.wrap_i64]; omega
          have htm : t < t + 1 := by omega
          have HO8 := hide O8.1
          have HFN : Hid ((⟨x.sku, x.qty + e.qty, x.parts + 1⟩ : Ln) = lineOf (M.take 0 ++ [e]) e.sku) := by show _ = _; rw [lineOf_same, HX.out.1, HX.out.2.1, HX.out.2.2]; rfl
          rw [HFN.out] at HO8
          clear O7 O8 E7 O6 HE6 Hw7 HFN hxq hxp
          go_wp2_with fail
          go_roundw
          case rel => exact ⟨0 + 1, some ⟨g, 0, none⟩, c6, acc ++ [lineOf (M.take 0 ++ [e]) e.sku], by omega, by simp [Ht.out]; omega, by simp [Ht.out], by go_num, HO8, by rw [HT.out]; exact HNW.out.2⟩
          case measure => simp [intOf]; omega
        · have hk1 : ((k : Int) == 0) = false := by simp; omega
          have hk2 : 0 < k := by omega
          obtain ⟨j, hj⟩ : ∃ j, k - 1 = j := ⟨_, rfl⟩
          have hz : IntKind.i64.wrap ((k : Int) - 1) = (j : Int) := by rw [IntKind.wrap_i64]; omega
          have hjn : j < n2 := by omega
          have A1 := (HS2.out.below HO.out.below).2.2.1 ad rfl j hjn
          have hjm : M.getD j en0 ∈ M.take k := by
            rw [show M.getD j en0 = (M.take k).getD j en0 by simp [List.getD, show j < k by omega]]
            exact getD_mem _ _ (by rw [List.length_take, HLM.out]; omega)
          have hjx : ∀ x ∈ M.take k, x.sku.data.toList ≤ (M.getD j en0).sku.data.toList := fun x hx => by
            have hs := take_snoc M j (by rw [HLM.out]; exact hjn)
            rw [show k = j + 1 by omega, hs] at hx
            rcases List.mem_append.1 hx with h | h
            · exact sorted_le HM.out.2 j (by rw [HLM.out]; exact hjn) x h
            · simp at h; rw [h]; exact List.le_refl _
          obtain ⟨e1, He1⟩ : ∃ e1, Hid (M.getD j en0 = e1) := ⟨_, rfl⟩
          rw [He1.out] at A1 hjm hjx
          have hsp1 := A1.spot
          have HA1 := hide A1
          have c1 : ∀ d os, (Sort.grow (redrawn wr d) os).cell? ⟨(ad.add (k * 4)).block, (ad.add (k * 4)).off + 2, none⟩ = some (.string e.sku) := fun d os => (HA0.out.on (below_regrown wr d os)).f2
          have c2' : ∀ d os, (Sort.grow (redrawn wr d) os).cell? ⟨(ad.add (j * 4)).block, (ad.add (j * 4)).off + 2, none⟩ = some (.string e1.sku) := fun d os => (HA1.out.on (below_regrown wr d os)).f2
          clear A1 hk0
          by_cases hes : e.sku = e1.sku
          · have hne := yesS hes
            obtain ⟨i, x, hix, hxs⟩ := HI.out.last e1 hjm hjx
            have HNW := hide ((hix ▸ HI.out : LineI (M.take k) (i ++ [x])).same e (hxs.trans hes.symm))
            rw [hix] at HO
            have hil : acc.length = i.length + 1 := by rw [hix]; simp
            rw [hil] at hal ⊢
            have Hes := hide hes
            have Hxs := hide (hxs.trans hes.symm)
            clear hes hix hxs hjm hjx HI
            go_wp2_with fail
            refine wp_region_quiet_below (by kernel_rfl) (by kernel_rfl) ?_
            repeat (with_reducible (refine wpQuiet_step ?_); intro K hK; go_simp; (try rw [if_neg (by unfold undef; simp)]); (with_reducible (refine hK _ ?_); clear hK K))
            with_reducible (refine wpQuiet_nil ?_)
            intro _ hw'
            obtain ⟨⟨dq, osq⟩, hw''⟩ := hw'
            subst hw''
            have HO5 := hide (HO.out.later (below_regrown wr dq osq))
            have HA5 := hide (HA0.out.on (below_regrown wr dq osq))
            obtain ⟨w5, Hw5⟩ : ∃ w5, Hid (Sort.grow (redrawn wr dq) osq = w5) := ⟨_, rfl⟩
            rw [Hw5.out] at HO5 HA5 ⊢
            clear Hw5 HO
            clear c1 c2' hne hz hk1
            obtain ⟨g, rfl⟩ := HO5.out.some
            have hw1 : IntKind.i64.wrap ((i.length : Int) + 1 - 1) = (i.length : Int) := by rw [IntKind.wrap_i64]; omega
            have hw2 : IntKind.i64.wrap (i.length : Int) = (i.length : Int) := by rw [IntKind.wrap_i64]; omega
            have HX : Hid (x.sku = e.sku ∧ x.qty = (lineOf (M.take k) e.sku).qty ∧ x.parts = (lineOf (M.take k) e.sku).parts) := ⟨Hxs.out, by rw [← HNW.out.1], by rw [← HNW.out.1]⟩
            have hxq : 0 ≤ x.qty ∧ x.qty ≤ 16000000000000000 := by rw [HX.out.2.1]; omega
            have hxp : 0 ≤ x.parts ∧ x.parts ≤ 16000000000 := by rw [HX.out.2.2]; omega
            clear hbd
            go_wp2_with fail
            clear hw1 hw2
            obtain ⟨w6, Hw6⟩ : ∃ w6, Hid (w5 = w6) := ⟨_, rfl⟩
            obtain rfl := Hw6.out
            have HA6 := HA5
            obtain ⟨c6, Hc6⟩ : ∃ c6, Hid (c = c6) := ⟨_, rfl⟩
            obtain rfl := Hc6.out
            have O6 := HO5
            clear HO5 HA5
            obtain ⟨t, Ht⟩ : ∃ t, Hid (i.length = t) := ⟨_, rfl⟩
            have HE6 := hide O6.out.ends
            rw [Ht.out] at HE6 ⊢
            have htk : t ≤ k := by rw [← Ht.out]; omega
            have O7 := (O6.out.later (below_draw _)).setEnd (y := ⟨x.sku, x.qty + e.qty, x.parts⟩) 1 (.int .i64 (x.qty + e.qty)) (by omega) rfl
            rw [Ht.out] at O7
            refine region11 g (t + 1) c n2 c2 k t ad x.qty e.qty (x.qty + e.qty) _ _ _ _ _ _ _ _ _ _ _ _ _ _ _ _ _ _ _ _ _ _ _ _ _ _ _ _ _ _ _ _ _ _ _ _ _ _ _ _ _ _ _ _ _ _ _ _ _ _ _ _ _ _ _ _ _ _ _ _ _ _ _ _ _ _ _ _ _ _ (by omega) hlt (by omega) (by omega) HSP.out HE6.out.1 O7.2 HA6.out.f3 (by rw [IntKind.wrap_i64]; omega) ?_
            have E7 := O7.1.ends
            rw [Ht.out] at E7
            obtain ⟨w7, Hw7⟩ : ∃ w7, Hid (w5.drew.setCell ⟨g, t * 3 + 1, none⟩ (.int .i64 (x.qty + e.qty)) = w7) := ⟨_, rfl⟩
            rw [Hw7.out] at O7 E7 ⊢
            have O8 := O7.1.setEnd (y := ⟨x.sku, x.qty + e.qty, x.parts + 1⟩) 2 (.int .i64 (x.parts + 1)) (by omega) rfl
            rw [Ht.out] at O8
            have c8 := E7.2
            have f8 := O8.2
            have hwp : IntKind.i64.wrap (x.parts + 1) = x.parts + 1 := by rw [IntKind.wrap_i64]; omega
            have htm : t < t + 1 := by omega
            have HO8 := hide O8.1
            have HFN : Hid ((⟨x.sku, x.qty + e.qty, x.parts + 1⟩ : Ln) = lineOf (M.take k ++ [e]) e.sku) := by show _ = _; rw [lineOf_same, HX.out.1, HX.out.2.1, HX.out.2.2]; rfl
            rw [HFN.out] at HO8
            clear O7 O8 E7 O6 HE6 Hw7 HFN hxq hxp
            go_wp2_with fail
            go_roundw
            case rel => exact ⟨k + 1, some ⟨g, 0, none⟩, c, i ++ [lineOf (M.take k ++ [e]) e.sku], by omega, by simp [Ht.out]; omega, by simp [Ht.out], by go_num, HO8, by rw [HT.out]; exact HNW.out.2⟩
            case measure => simp [intOf]; omega
          · have hne := neS hes
            have hlt0 : ∀ x ∈ M.take k, x.sku.data.toList < e.sku.data.toList := fun x hx => by
              refine Classical.byContradiction fun h => hes ?_
              have h1 := HLE.out e1 hjm
              have h2 := hjx x hx
              have h3 : e.sku.data.toList = e1.sku.data.toList := List.le_antisymm (List.le_trans (List.not_lt.1 h) h2) h1
              exact (eqS_iff _ _).1 (by unfold eqS; rw [ByteArray.toList_eq, ByteArray.toList_eq, h3]; simp)
            have HNW := hide (HI.out.new e hlt0)
            obtain ⟨i, Hi⟩ : ∃ i, Hid (acc = i) := ⟨_, rfl⟩
            clear hes hlt0 hjm hjx
            go_wp2_with fail
            refine wp_region_quiet_below (by kernel_rfl) (by kernel_rfl) ?_
            repeat (with_reducible (refine wpQuiet_step ?_); intro K hK; go_simp; (try rw [if_neg (by unfold undef; simp)]); (with_reducible (refine hK _ ?_); clear hK K))
            with_reducible (refine wpQuiet_nil ?_)
            intro _ hw'
            obtain ⟨⟨dq, osq⟩, hw''⟩ := hw'
            subst hw''
            have HO5 := hide (HO.out.later (below_regrown wr dq osq))
            have HA5 := hide (HA0.out.on (below_regrown wr dq osq))
            obtain ⟨w5, Hw5⟩ : ∃ w5, Hid (Sort.grow (redrawn wr dq) osq = w5) := ⟨_, rfl⟩
            rw [Hw5.out] at HO5 HA5 ⊢
            clear Hw5 HO
            clear c1 c2' hne hz hk1
            have x2 := HA5.out.f2
            have O5 := HO5.out
            have hw1 : IntKind.i64.wrap ((acc.length : Int) + 1 - 1) = (acc.length : Int) := by rw [IntKind.wrap_i64]; omega
            have hw2 : IntKind.i64.wrap (acc.length : Int) = (acc.length : Int) := by rw [IntKind.wrap_i64]; omega
            go_wp2_with (at_builtin; refine O5.append2 ⟨e.sku, 0, 0⟩ _ rfl (by omega) rfl (.tmp 35) (.tmp 42) rfl acc.length rfl rfl rfl ?_; intro g c6 w6 O6 hk6 hl6)
            have HA6 : Hid (EnAt w6 (ad.add (k * 4)) e) := by have h := HS2.out.2.2.1 ad rfl k hlt; rw [He.out] at h; exact h.on O6.below
            obtain ⟨x, Hx⟩ : ∃ x : Ln, Hid (x = ⟨e.sku, 0, 0⟩) := ⟨_, rfl⟩
            have O6' := O6
            rw [← Hx.out] at O6'
            have HX : Hid (x.sku = e.sku ∧ x.qty = (lineOf (M.take k) e.sku).qty ∧ x.parts = (lineOf (M.take k) e.sku).parts) := by show _ ∧ _; rw [HNW.out.1, Hx.out]; exact ⟨rfl, rfl, rfl⟩
            have hxq : 0 ≤ x.qty ∧ x.qty ≤ 16000000000000000 := by rw [Hx.out]; simp
            have hxp : 0 ≤ x.parts ∧ x.parts ≤ 16000000000 := by rw [Hx.out]; simp
            clear x2 O5 hw1 hw2 HO5 HA5 hk6 hl6 O6 hbd
            have O6 := hide O6'
            clear O6'
            obtain ⟨t, Ht⟩ : ∃ t, Hid (acc.length = t) := ⟨_, rfl⟩
            have HE6 := hide O6.out.ends
            rw [Ht.out] at HE6 ⊢
            have htk : t ≤ k := by rw [← Ht.out]; omega
            have O7 := (O6.out.later (below_draw _)).setEnd (y := ⟨x.sku, x.qty + e.qty, x.parts⟩) 1 (.int .i64 (x.qty + e.qty)) (by omega) rfl
            rw [Ht.out] at O7
            refine region11 g (t + 1) c6 n2 c2 k t ad x.qty e.qty (x.qty + e.qty) _ _ _ _ _ _ _ _ _ _ _ _ _ _ _ _ _ _ _ _ _ _ _ _ _ _ _ _ _ _ _ _ _ _ _ _ _ _ _ _ _ _ _ _ _ _ _ _ _ _ _ _ _ _ _ _ _ _ _ _ _ _ _ _ _ _ _ _ _ _ (by omega) hlt (by omega) (by omega) HSP.out HE6.out.1 O7.2 HA6.out.f3 (by rw [IntKind.wrap_i64]; omega) ?_
            have E7 := O7.1.ends
            rw [Ht.out] at E7
            obtain ⟨w7, Hw7⟩ : ∃ w7, Hid (w6.drew.setCell ⟨g, t * 3 + 1, none⟩ (.int .i64 (x.qty + e.qty)) = w7) := ⟨_, rfl⟩
            rw [Hw7.out] at O7 E7 ⊢
            have O8 := O7.1.setEnd (y := ⟨x.sku, x.qty + e.qty, x.parts + 1⟩) 2 (.int .i64 (x.parts + 1)) (by omega) rfl
            rw [Ht.out] at O8
            have c8 := E7.2
            have f8 := O8.2
            have hwp : IntKind.i64.wrap (x.parts + 1) = x.parts + 1 := by rw [IntKind.wrap_i64]; omega
            have htm : t < t + 1 := by omega
            have HO8 := hide O8.1
            have HFN : Hid ((⟨x.sku, x.qty + e.qty, x.parts + 1⟩ : Ln) = lineOf (M.take k ++ [e]) e.sku) := by show _ = _; rw [lineOf_same, HX.out.1, HX.out.2.1, HX.out.2.2]; rfl
            rw [HFN.out] at HO8
            clear O7 O8 E7 O6 HE6 Hw7 HFN hxq hxp
            go_wp2_with fail
            go_roundw
            case rel => exact ⟨k + 1, some ⟨g, 0, none⟩, c6, acc ++ [lineOf (M.take k ++ [e]) e.sku], by omega, by simp [Ht.out]; omega, by simp [Ht.out], by go_num, HO8, by rw [HT.out]; exact HNW.out.2⟩
            case measure => simp [intOf]; omega
      · obtain rfl : k = n2 := by omega
        have htk : M.take k = M := List.take_of_length_le (by rw [HLM.out]; exact Nat.le_refl _)
        have hI := HI.out
        rw [htk] at hI
        have HLO := hide (hI.done HM.out.1 HC.out)
        have hs : ∀ l ∈ acc, l.sku.size ≤ maxLen := fun l hl => by
          obtain ⟨_, y, hy, hys⟩ := hI.self l hl
          rw [← hys]
          exact HS2.out.2.2.2.1 y hy
        obtain ⟨S5, F5⟩ := HO.out.src hs (by omega)
        have HS5 := hide S5
        have HF5 := hide F5
        have HF6 := hide HO.out.form
        clear S5 F5 hs hI htk
        have HW := hide (B2.out.trans (HO.out.below.mono B2.out.size))
        go_wp2_with fail
        go_ret2
        exact ⟨ap, acc.length, c, acc, 0, rfl, HS5.out, HW.out, fun ad h => ⟨Nat.le_trans B2.out.size (HF5.out ad h), HF6.out ad h⟩, HLO.out⟩
  · rw [h]
    have HC : Hid (chk L ≠ 0) := by show chk L ≠ 0; rw [h]; decide
    clear h
    go_wp2_with fail
    go_ret2
    exact ⟨none, 0, 0, [], 1, rfl, LSrc.none _, B1.out, (fun ad h => by cases h), Or.inl ⟨HC.out, rfl, rfl⟩⟩
end Go.Proofs.Ytmhdhedjeaaciaa
