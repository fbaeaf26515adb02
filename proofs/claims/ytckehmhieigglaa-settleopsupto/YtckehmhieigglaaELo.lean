/- SettleOps: the law. -/
import Derived.Test.YtckehmhieigglaaEOf
namespace Go.Proofs.Ytckehmhieigglaa
open Go.RowKit
attribute [local go_sem ↓] ldP_eq stP_eq
variable {w w' w2 : World} {g : Nat}

theorem PSrc.lit (w : World) (f t : Int) : PSrc (w.alloc (.cells #[.int .i64 f, .int .i64 t] 28)) (some ⟨w.heap.size, 0, none⟩) 1 1 [⟨f, t⟩] := by
  refine ⟨rfl, (fun h => by cases h), fun ad h k hk => ?_⟩
  obtain rfl := Option.some.inj h
  obtain rfl : k = 0 := by omega
  have B : PBox (w.alloc (.cells (PC ⟨f, t⟩) 28)) w.heap.size ⟨f, t⟩ := PBox_new w ⟨f, t⟩
  rw [Nat.zero_mul, add_nought]
  exact ⟨B.c0, by rw [Addr.add_lit]; exact B.c1⟩
theorem OSrc.lit (w : World) (x : Opp) : OSrc (w.alloc (.cells (OC x) 53)) (some ⟨w.heap.size, 0, none⟩) 1 1 [x] := by
  refine ⟨rfl, (fun h => by cases h), fun ad h k hk => ?_⟩
  obtain rfl := Option.some.inj h
  obtain rfl : k = 0 := by omega
  have B := OBox_new w x
  rw [Nat.zero_mul, add_nought]
  exact ⟨B.c0, by rw [Addr.add_lit]; exact B.c1, by rw [Addr.add_lit]; exact B.c2, by rw [Addr.add_lit]; exact B.c3, by rw [Addr.add_lit]; exact B.c4, by rw [Addr.add_lit]; exact B.c5, by rw [Addr.add_lit]; exact B.c6⟩
theorem OR.lit (w : World) : OR (w.alloc (.cells #[] 53)) (some ⟨w.heap.size, 0, none⟩) 0 0 [] :=
  ⟨by simp [ocs], .inr ⟨w.heap.size, 0, _, rfl, Nat.zero_le _, heap_alloc_new w _, Nat.le_refl _, by unfold maxLen; omega, by simp, by simp [ocs]⟩⟩
theorem GrO.lit {w w1 : World} (h : Below w.heap.size w w1) : GrO w (w1.alloc (.cells #[] 53)) (some ⟨w1.heap.size, 0, none⟩) 0 0 [] :=
  ⟨OR.lit w1, h.trans ((below_new w1 _).mono h.size), fun k hk => by have := Option.some.inj hk; have := h.size; simp only at *; omega⟩
set_option maxRecDepth 100000 in
theorem settleOps_any (ao : Option Addr) (n c : Nat) (L : List Pr) (b : Bool) (w : World) (S : PSrc w ao n c L) (hn : n ≤ 1048576) : Calls Try.prog 8 #[.slice ao n c, .bool b] w fun e w' => e = .returned (.bool true) ∧ Below w.heap.size w w' := by
  have HL : Hid (L.length = n) := S.len
  have HS := hide S
  have HO := hide ops_any
  clear S
  cases b
  · go_enter Try.func8, Try.ntmps8
    go_wp2_with (first
      | (go_at_call 26; refine (sameOps_true _ _ _ _ _ _ _ _ _ (HR1.out.src.below (below_new _ _)) (OSrc.lit w1 (opOf 9 ⟨7, 7⟩)) rfl (by omega)).mono ?_; rintro e w2 ⟨rfl, b2⟩; have HB2 := hide (HB1.out.trans (((below_new w1 _).trans (b2.mono (below_new w1 _).size)).mono HB1.out.size)); clear b2)
      | (go_at_call 25; refine (ops_any _ _ _ _ true _ (PSrc.lit w 7 7) (by omega)).mono ?_; rintro e w1 ⟨b1, c1, rfl, R1, N1⟩; have HR1 := hide R1; have HB1 := hide ((below_new w _).trans (N1.1.mono (below_new w (.cells #[.int .i64 7, .int .i64 7] 28)).size)); clear R1 N1))
    go_loopw [7, 23] (fun p i wr => ∃ (k : Nat) (bo : Option Addr) (m cc : Nat), k ≤ n ∧ i = .int .i64 k ∧ p = .slice bo m cc ∧ Hid (m = k) ∧ Hid (GrO w wr bo m cc ((L.take k).map (opOf 8)))) (fun _ i _ => n - (intOf i).toNat)
    case atStart => exact ⟨0, _, 0, 0, Nat.zero_le _, rfl, rfl, rfl, GrO.lit HB2.out⟩
    case round =>
      clear HB2 HB1 HR1
      obtain ⟨k, bo, m, cc, hk, rfl, rfl, HK, HG⟩ := hrel
      by_cases hlt : k < n
      · obtain ⟨ad, rfl, x⟩ := (HS.out.below HG.out.a.1).at k hlt
        have HT := hide (take_next (opOf 8) L p0 k (by have := HL.out; omega))
        obtain ⟨q, hq⟩ : ∃ q, L.getD k p0 = q := ⟨_, rfl⟩
        rw [hq] at x HT
        obtain ⟨f, t⟩ := q
        have x0 : (ldP (.pointer (some (ad.add (k * 2))))).run Try.prog wr = .ok (.agg #[.int .i64 f, .int .i64 t]) wr := run_laP x
        obtain ⟨w3, hst, hbx, hbl, -⟩ := madeP wr ⟨f, t⟩ wr.heap.size rfl
        have hst' : (stP (.pointer (some ⟨wr.heap.size, 0, none⟩)) (.agg #[.int .i64 f, .int .i64 t])).run Try.prog (wr.alloc (.cells #[.int .i64 0, .int .i64 0] 28)) = .ok () w3 := hst
        have c0 := hbx.c0
        have c1 := hbx.c1
        simp only at c0 c1
        have HG3 := hide (HG.out.below hbl)
        have HR3 := hide HG3.out.r
        have HM : Hid (m + 1 ≤ 2199023255452) := by show _ ≤ _; have := HK.out; omega
        clear hst hbx hbl HG hq x
        go_wp2_with (at_builtin; refine HR3.out.app (L := [opOf 8 ⟨f, t⟩]) (m := 1) rfl (ocs_lit _ _ _) HM.out rfl (.tmp 27) (.tmp 34) rfl rfl rfl ?_; intro b4 c4 w4 R4 A4; have HG4 := hide (HG3.out.app R4 A4); clear R4 A4)
        go_roundw
        case rel => exact ⟨k + 1, b4, m + 1, c4, by omega, by go_num, rfl, by show _ = _; rw [HK.out], by show GrO _ _ _ _ _ _; rw [HT.out]; exact HG4.out⟩
        case measure => simp [intOf]; omega
      · obtain rfl : k = n := by omega
        have HE : Hid (List.take k L = L) := List.take_of_length_le (by have := HL.out; omega)
        rw [HE.out] at HG
        clear HE
        have HW := hide (HS.out.below HG.out.a.1)
        go_wp2_with (first
          | (go_at_call 19; refine (samePair_true _ _ _ _ _ _ _ _ _ (HR5.out.src.below HB65.out) (HS.out.below HG7.out.a.1) rfl (by omega)).mono ?_; rintro e w8 ⟨rfl, b8⟩; have HG8 := hide (HG7.out.below b8); clear b8)
          | (go_at_call 26; refine (sameOps_true _ _ _ _ _ _ _ _ _ HR6.out.src HG6.out.r.src rfl (by omega)).mono ?_; rintro e w7 ⟨rfl, b7⟩; have HG7 := hide (HG6.out.below b7); have HB65 := hide (HB6.out.trans (b7.mono HB6.out.size)); clear b7)
          | (go_at_call 25; refine (HO.out _ _ _ _ false _ HR5.out.src (by omega)).mono ?_; rintro e w6 ⟨b6, c6, rfl, R6, N6⟩; have HR6 := hide R6; have HG6 := hide (HG5.out.below N6.1); have HB6 := hide N6.1; clear R6 N6)
          | (go_at_call 16; refine (copyPairs_any _ _ _ _ _ HW.out (by omega)).mono ?_; rintro e w5 ⟨b5, c5, rfl, R5, N5⟩; have HR5 := hide R5; have HG5 := hide (HG.out.below N5.1); clear R5 N5))
        go_ret
        exact ⟨rfl, HG8.out.a.1⟩
  · go_enter Try.func8, Try.ntmps8
    go_wp2_with (first
      | (go_at_call 26; refine (sameOps_true _ _ _ _ _ _ _ _ _ (HR1.out.src.below (below_new _ _)) (OSrc.lit w1 (opOf 9 ⟨7, 7⟩)) rfl (by omega)).mono ?_; rintro e w2 ⟨rfl, b2⟩; have HB2 := hide (HB1.out.trans (((below_new w1 _).trans (b2.mono (below_new w1 _).size)).mono HB1.out.size)); clear b2)
      | (go_at_call 25; refine (ops_any _ _ _ _ true _ (PSrc.lit w 7 7) (by omega)).mono ?_; rintro e w1 ⟨b1, c1, rfl, R1, N1⟩; have HR1 := hide R1; have HB1 := hide ((below_new w _).trans (N1.1.mono (below_new w (.cells #[.int .i64 7, .int .i64 7] 28)).size)); clear R1 N1))
    go_loopw [7, 23] (fun p i wr => ∃ (k : Nat) (bo : Option Addr) (m cc : Nat), k ≤ n ∧ i = .int .i64 k ∧ p = .slice bo m cc ∧ Hid (m = k) ∧ Hid (GrO w wr bo m cc ((L.take k).map (opOf 9)))) (fun _ i _ => n - (intOf i).toNat)
    case atStart => exact ⟨0, _, 0, 0, Nat.zero_le _, rfl, rfl, rfl, GrO.lit HB2.out⟩
    case round =>
      clear HB2 HB1 HR1
      obtain ⟨k, bo, m, cc, hk, rfl, rfl, HK, HG⟩ := hrel
      by_cases hlt : k < n
      · obtain ⟨ad, rfl, x⟩ := (HS.out.below HG.out.a.1).at k hlt
        have HT := hide (take_next (opOf 9) L p0 k (by have := HL.out; omega))
        obtain ⟨q, hq⟩ : ∃ q, L.getD k p0 = q := ⟨_, rfl⟩
        rw [hq] at x HT
        obtain ⟨f, t⟩ := q
        have x0 : (ldP (.pointer (some (ad.add (k * 2))))).run Try.prog wr = .ok (.agg #[.int .i64 f, .int .i64 t]) wr := run_laP x
        obtain ⟨w3, hst, hbx, hbl, -⟩ := madeP wr ⟨f, t⟩ wr.heap.size rfl
        have hst' : (stP (.pointer (some ⟨wr.heap.size, 0, none⟩)) (.agg #[.int .i64 f, .int .i64 t])).run Try.prog (wr.alloc (.cells #[.int .i64 0, .int .i64 0] 28)) = .ok () w3 := hst
        have c0 := hbx.c0
        have c1 := hbx.c1
        simp only at c0 c1
        have HG3 := hide (HG.out.below hbl)
        have HR3 := hide HG3.out.r
        have HM : Hid (m + 1 ≤ 2199023255452) := by show _ ≤ _; have := HK.out; omega
        clear hst hbx hbl HG hq x
        go_wp2_with (at_builtin; refine HR3.out.app (L := [opOf 9 ⟨f, t⟩]) (m := 1) rfl (ocs_lit _ _ _) HM.out rfl (.tmp 27) (.tmp 34) rfl rfl rfl ?_; intro b4 c4 w4 R4 A4; have HG4 := hide (HG3.out.app R4 A4); clear R4 A4)
        go_roundw
        case rel => exact ⟨k + 1, b4, m + 1, c4, by omega, by go_num, rfl, by show _ = _; rw [HK.out], by show GrO _ _ _ _ _ _; rw [HT.out]; exact HG4.out⟩
        case measure => simp [intOf]; omega
      · obtain rfl : k = n := by omega
        have HE : Hid (List.take k L = L) := List.take_of_length_le (by have := HL.out; omega)
        rw [HE.out] at HG
        clear HE
        have HW := hide (HS.out.below HG.out.a.1)
        go_wp2_with (first
          | (go_at_call 19; refine (samePair_true _ _ _ _ _ _ _ _ _ (HR5.out.src.below HB65.out) (HS.out.below HG7.out.a.1) rfl (by omega)).mono ?_; rintro e w8 ⟨rfl, b8⟩; have HG8 := hide (HG7.out.below b8); clear b8)
          | (go_at_call 26; refine (sameOps_true _ _ _ _ _ _ _ _ _ HR6.out.src HG6.out.r.src rfl (by omega)).mono ?_; rintro e w7 ⟨rfl, b7⟩; have HG7 := hide (HG6.out.below b7); have HB65 := hide (HB6.out.trans (b7.mono HB6.out.size)); clear b7)
          | (go_at_call 25; refine (HO.out _ _ _ _ true _ HR5.out.src (by omega)).mono ?_; rintro e w6 ⟨b6, c6, rfl, R6, N6⟩; have HR6 := hide R6; have HG6 := hide (HG5.out.below N6.1); have HB6 := hide N6.1; clear R6 N6)
          | (go_at_call 16; refine (copyPairs_any _ _ _ _ _ HW.out (by omega)).mono ?_; rintro e w5 ⟨b5, c5, rfl, R5, N5⟩; have HR5 := hide R5; have HG5 := hide (HG.out.below N5.1); clear R5 N5))
        go_ret
        exact ⟨rfl, HG8.out.a.1⟩
end Go.Proofs.Ytckehmhieigglaa
