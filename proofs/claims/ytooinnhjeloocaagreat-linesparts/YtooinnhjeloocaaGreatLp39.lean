/- LRis -/
import Derived.Test.YtooinnhjeloocaaGreatLp38
import Derived.Shelf.SlSortCmp.NoneTotal
namespace Go.Proofs.YtooinnhjeloocaaGreat.K
open Go.RowKit Go.Lib
attribute [local go_sem ↓] ld28_eq st28_eq ld26_eq run_eqD
attribute [local go_sem] zero_EC cells_EV EC_size
/-- a list and an error are handed back: the entries settled; below B all stands -/
def GivesTB (B : Nat) (w w' : World) (e : Ending) (L : List En) : Prop := ∃ ao n c R er, e = .returned (.tuple #[.slice ao n c, .int .i64 er]) ∧ ESrc w' ao n c R ∧ Below B w w' ∧ (∀ ad, ao = some ad → B ≤ ad.block) ∧ Settled L R er
theorem settled_nil : Settled [] [] 0 := Or.inr ⟨(fun ⟨_, h, _⟩ => by cases h), rfl, List.Pairwise.nil, fun _ => Iff.rfl⟩
theorem sort0 (ao : Option Addr) (cap : Nat) (w : World) : Calls Tryz.prog 37 #[.slice ao 0 cap, .func (.func 20) #[] #[]] w fun e w' => e = .returned (.tuple #[]) ∧ w' = w := AnyF.slices_SortFunc_none Tryz.sortEn ao cap _ w
theorem compact0 (ao : Option Addr) (cap : Nat) (w : World) : Calls Tryz.prog 38 #[.slice ao 0 cap] w fun e w' => e = .returned (.slice ao 0 cap) ∧ w' = w := by
  go_enter Tryz.func38, Tryz.ntmps38
  go_wp2_with fail
  go_ret
  exact ⟨rfl, rfl⟩
theorem rising0 (ao : Option Addr) (cap : Nat) (w : World) : Calls Tryz.prog 21 #[.slice ao 0 cap] w fun e w' => e = .returned (.tuple #[.slice ao 0 cap, .int .i64 0]) ∧ Below w.heap.size w w' := by
  have HB : Hid (Below w.heap.size w w) := Below.refl _ _
  go_enter Tryz.func21, Tryz.ntmps21
  go_wp2_with fail
  refine (sort0 ao cap _).mono ?_
  rintro e w1 ⟨rfl, rfl⟩
  go_wp2_with fail
  refine (compact0 ao cap _).mono ?_
  rintro e w2 ⟨rfl, rfl⟩
  go_wp2_with fail
  go_loopw [4, 11] (fun _ i wr => i = .int .i64 0 ∧ wr = w2) (fun _ _ _ => 0)
  case atStart => exact ⟨rfl, rfl⟩
  case round =>
    obtain ⟨rfl, rfl⟩ := hrel
    go_wp2_with fail
    go_ret2
    exact ⟨rfl, HB.out⟩
theorem MR.esrc {W : World} {ad : Addr} {d : Array En} (M : MR W ad d) (k c : Nat) (hk : k ≤ d.size) (C : List En) (hC : d.toList.take k = C) (hs : ∀ e ∈ C, e.sku.size ≤ maxLen) (hm : k ≤ 3518437208883) : ESrc W (some ad) k c C := by
  subst hC
  refine ⟨by rw [List.length_take, Array.length_toList]; omega, fun h => (by cases h), fun ad' h t ht => ?_, hs, hm⟩
  obtain rfl := Option.some.inj h
  have e : (d.toList.take k).getD t en0 = d[t]! := by
    rw [List.getD, List.getElem?_take, if_pos ht, Array.getElem?_toList, Array.getElem?_eq_getElem (by omega), getElem!_pos d t (by omega)]
    rfl
  rw [e]
  exact M.at t (by omega)
set_option maxRecDepth 100000 in
set_option maxHeartbeats 4000000 in
theorem rising_any (ad : Addr) (cap n : Nat) (d : Array En) (w : World) (M : MR w ad d) (hn : d.size = n) (hb : n ≤ 3518437208883) (hcap : n ≤ cap) (hcm : cap ≤ 9223372036854775807) (hsk : ∀ e ∈ d.toList, e.sku.size ≤ maxLen) :
    Calls Tryz.prog 21 #[.slice (some ad) n cap] w fun e w' => GivesTB ad.block w w' e d.toList := by
  have HM := hide M
  have HN := hide hn
  have HSK := hide hsk
  have HC := hide hcap
  have HCM := hide hcm
  clear M hn hsk hcap hcm
  go_enter Tryz.func21, Tryz.ntmps21
  go_wp2_with fail
  refine (sortFunc_any ad cap n d _ HM.out HN.out hb).mono ?_
  rintro e w1 ⟨rfl, d1, hp, hs, M1, b1⟩
  have HP := hide hp
  have HS := hide hs
  have HM1 := hide M1
  have HB1 := hide b1
  clear hp hs M1 b1
  have HN1 : Hid (d1.size = n) := by have := HP.out.length_eq; rw [Array.length_toList, Array.length_toList, HN.out] at this; exact this
  go_wp2_with fail
  refine (compact_any ad cap n d1 _ HM1.out HN1.out hb HC.out HCM.out).mono ?_
  rintro e w2 ⟨k, d2, rfl, M2, hk, hs2, ht, b2⟩
  obtain ⟨C, hCt⟩ : ∃ C, d2.toList.take k = C := ⟨_, rfl⟩
  have HCT := hide hCt
  have HCC : Hid (C = compactUpTo d1 d1.size) := hCt.symm.trans ht
  have HM2 := hide M2
  have HB2 : Hid (Below ad.block w w2) := HB1.out.trans b2
  have HK : Hid (k ≤ d2.size) := by show _ ≤ _; rw [hs2]; exact hk
  have hkn : k ≤ n := by have := HN1.out; omega
  have HLC : Hid (C.length = k) := by show _ = _; rw [← hCt, List.length_take, Array.length_toList]; have := HK.out; omega
  have HSC : Hid (∀ e ∈ C, e.sku.size ≤ maxLen) := fun e he => by
    rw [HCC.out] at he
    exact HSK.out e (HP.out.mem_iff.1 ((cmp_iff d1 e).1 he))
  have HPM : Hid (∀ x, x ∈ d1.toList ↔ x ∈ d.toList) := fun x => HP.out.mem_iff
  clear hCt ht M2 b2 hs2 hk HB1 HM1
  go_wp2_with fail
  go_loopw [4, 11] (fun _ i wr => ∃ k0 : Nat, k0 ≤ k ∧ i = .int .i64 k0 ∧ Hid (AdjN C k0 ∧ Below w2.heap.size w2 wr)) (fun _ i _ => k - (intOf i).toNat)
  case atStart => exact ⟨0, Nat.zero_le _, rfl, fun i hi => by omega, Below.refl _ _⟩
  case round =>
    obtain ⟨k0, hk0, rfl, H⟩ := hrel
    rename World => w4
    have HLT : Hid (ad.block ≤ w2.heap.size) := Nat.le_of_lt HM2.out.lt
    have HM4 := hide (HM2.out.on H.out.2)
    by_cases hlt : k0 < k
    · by_cases h0 : k0 = 0
      · subst h0
        go_wp2_with fail
        refine wp_region_quiet_below (by kernel_rfl) (by kernel_rfl) ?_
        repeat (with_reducible (refine wpQuiet_step ?_); intro K hK; go_simp; (try rw [if_neg (by unfold undef; simp)]); first | (with_reducible (refine hK _ ?_); clear hK K) | (apply Exists.intro; refine ⟨fun _ => ?_, hK _ ?_⟩; (fail); clear hK K))
        with_reducible (refine wpQuiet_nil ?_)
        intro w5 hw'
        obtain ⟨⟨dq, osq⟩, hw''⟩ := hw'
        have b5 : Below w4.heap.size w4 w5 := by rw [hw'']; exact below_regrown w4 dq osq
        clear hw'' dq osq
        have H5 : Hid (AdjN C (0 + 1) ∧ Below w2.heap.size w2 w5) := ⟨fun i hi => by omega, H.out.2.trans (b5.mono H.out.2.size)⟩
        clear b5
        go_wp2_with fail
        go_roundw
        case rel => exact ⟨0 + 1, by omega, by go_num, H5⟩
        case measure => simp [intOf]; omega
      · obtain ⟨j, hj⟩ : ∃ j, k0 - 1 = j := ⟨_, rfl⟩
        have hz : IntKind.i64.wrap ((k0 : Int) - 1) = (j : Int) := by rw [IntKind.wrap_i64]; omega
        have hjn : j < k := by omega
        have hd0 : decide ((0 : Int) < (k0 : Int)) = true := decide_eq_true (by omega)
        have hpos : 0 < k0 := by omega
        have Hj : Hid (k0 = j + 1) := by show _ = _; omega
        have S4 := HM4.out.esrc k cap HK.out C HCT.out HSC.out (by omega)
        have A0 := hide (S4.2.2.1 ad rfl k0 hlt)
        have A1 := hide (S4.2.2.1 ad rfl j hjn)
        obtain ⟨x, Hx⟩ : ∃ x, Hid (C.getD k0 en0 = x) := ⟨_, rfl⟩
        obtain ⟨y, Hy⟩ : ∃ y, Hid (C.getD j en0 = y) := ⟨_, rfl⟩
        rw [Hx.out] at A0
        rw [Hy.out] at A1
        clear S4 hj h0
        have l0 : ∀ d os, (ld26 (.pointer (some (ad.add (k0 * 4))))).run Tryz.prog (Sort.grow (redrawn w4 d) os) = .ok (.agg (DC x)) (Sort.grow (redrawn w4 d) os) := fun d os => run_ld26 (A0.out.on (below_regrown w4 d os))
        have l1 : ∀ d os, (ld26 (.pointer (some (ad.add (j * 4))))).run Tryz.prog (Sort.grow (redrawn w4 d) os) = .ok (.agg (DC y)) (Sort.grow (redrawn w4 d) os) := fun d os => run_ld26 (A1.out.on (below_regrown w4 d os))
        obtain ⟨q, hq⟩ : ∃ q, sameDot y x = q := ⟨_, rfl⟩
        cases q with
        | false =>
          have HQ := hide hq
          go_wp2_with fail
          refine wp_region_quiet_below (by kernel_rfl) (by kernel_rfl) ?_
          repeat (with_reducible (refine wpQuiet_step ?_); intro K hK; go_simp; (try rw [if_neg (by unfold undef; simp)]); first | (with_reducible (refine hK _ ?_); clear hK K) | (apply Exists.intro; refine ⟨fun _ => ?_, hK _ ?_⟩; (fail); clear hK K))
          with_reducible (refine wpQuiet_nil ?_)
          intro w5 hw'
          obtain ⟨⟨dq, osq⟩, hw''⟩ := hw'
          have b5 : Below w4.heap.size w4 w5 := by rw [hw'']; exact below_regrown w4 dq osq
          clear hw'' dq osq
          have H5 : Hid (AdjN C (k0 + 1) ∧ Below w2.heap.size w2 w5) := ⟨fun i hi => by
            by_cases e : i = j
            · subst e; rw [← Hj.out, Hx.out, Hy.out, same_symm]; exact HQ.out
            · exact H.out.1 i (by have := Hj.out; omega), H.out.2.trans (b5.mono H.out.2.size)⟩
          clear b5 l0 l1
          go_wp2_with fail
          go_roundw
          case rel => exact ⟨k0 + 1, by omega, by go_num, H5⟩
          case measure => simp [intOf]; omega
        | true =>
          have HF : Hid (Settled d.toList [] 10) := (settled_clash HCC.out j (by rw [HLC.out]; have := Hj.out; omega) (by rw [← Hj.out, Hx.out, Hy.out]; exact hq)).perm HPM.out
          go_wp2_with fail
          refine wp_region_quiet_below (by kernel_rfl) (by kernel_rfl) ?_
          repeat (with_reducible (refine wpQuiet_step ?_); intro K hK; go_simp; (try rw [if_neg (by unfold undef; simp)]); first | (with_reducible (refine hK _ ?_); clear hK K) | (apply Exists.intro; refine ⟨fun _ => ?_, hK _ ?_⟩; (fail); clear hK K))
          with_reducible (refine wpQuiet_nil ?_)
          intro w5 hw'
          obtain ⟨⟨dq, osq⟩, hw''⟩ := hw'
          have b5 : Below w4.heap.size w4 w5 := by rw [hw'']; exact below_regrown w4 dq osq
          clear hw'' dq osq
          have HB5 : Hid (Below ad.block w w5) := HB2.out.trans ((H.out.2.trans (b5.mono H.out.2.size)).mono HLT.out)
          clear b5 l0 l1
          go_wp2_with fail
          go_ret2
          exact ⟨none, 0, 0, [], 10, rfl, ESrc.none _, HB5.out, fun ad h => (by cases h), HF.out⟩
    · obtain rfl : k0 = k := by omega
      have HF : Hid (Settled d.toList C 0) := (settled_done HCC.out HS.out (by rw [HLC.out]; exact H.out.1)).perm HPM.out
      have HE := hide (HM4.out.esrc k0 cap HK.out C HCT.out HSC.out (by omega))
      have HB5 : Hid (Below ad.block w w4) := HB2.out.trans (H.out.2.mono HLT.out)
      go_wp2_with fail
      go_ret2
      exact ⟨some ad, k0, cap, C, 0, rfl, HE.out, HB5.out, fun ad' h => by obtain rfl := Option.some.inj h; exact Nat.le_refl _, HF.out⟩
end Go.Proofs.YtooinnhjeloocaaGreat.K
