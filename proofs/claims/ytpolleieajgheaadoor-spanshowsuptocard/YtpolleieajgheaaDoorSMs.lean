/- The reference's marks: its contract. -/
import Derived.Test.YtpolleieajgheaaDoorSMk
import Derived.Test.YtpolleieajgheaaDoorRSl
namespace Go.Proofs.YtpolleieajgheaaDoor
open Go.RowKit
attribute [local go_sem ↓] ldM_eq
attribute [local go_sem] zero_MC cells_MV MC_size fold_MC build_MC

/-- the sets' lists -/
def lsts (X : List Sl) : List (List Rn) := X.map (·.L)
theorem lsts_len (X : List Sl) : (lsts X).length = X.length := by simp [lsts]
theorem lsts_at {X : List Sl} {k : Nat} {s : Sl} (hs : X[k]? = some s) : (lsts X).getD k [] = s.L := by simp [lsts, List.getD, hs]
theorem mksTo_len {w : World} {X : List Sl} (h : ∀ s, s ∈ X → RSrc w s.ao s.n s.cap s.L) : ∀ k, k ≤ X.length → (mksTo (lsts X) k).length ≤ 2 * tot (X.take k)
  | 0, _ => by simp [mksTo]
  | k + 1, hk => by
    have hk' : k < X.length := by omega
    have hs : X[k]? = some X[k] := List.getElem?_eq_getElem hk'
    have h1 := mksTo_len h k (by omega)
    have h2 := mks1_len k X[k].L
    have h3 := (h X[k] (List.getElem_mem hk')).len
    rw [mksTo, List.length_append, lsts_at hs, take_one hs, tot_append]
    simp only [tot]
    omega
set_option maxRecDepth 100000 in
set_option maxHeartbeats 8000000 in
theorem marks_any (ao : Option Addr) (q cp : Nat) (X : List Sl) (w : World) (hC : CSrc w ao q X) (hlen : tot X ≤ 8589934592) :
    Calls Tryd.prog 27 #[.slice ao q cp] w fun e w' => GivesM w w' e (fun l => l = mksTo (lsts X) q) := by
  have HC := hide hC
  have HL : Hid (X.length = q) := hC.len
  have hq := hC.big
  clear hC
  go_enter Tryd.func27, Tryd.ntmps27
  go_wp2_with fail
  go_loopw [3, 4] (fun v i wr => ∃ (k : Nat) (ap : Option Addr) (c : Nat) (acc : List Mk), k ≤ q ∧ v = .slice ap acc.length c ∧ i = .int .i64 k ∧ Hid (acc = mksTo (lsts X) k ∧ OwnM w.heap.size w.heap.size w wr ap c acc)) (fun _ i _ => q - (intOf i).toNat)
  case atStart => exact ⟨0, none, 0, [], Nat.zero_le _, rfl, rfl, rfl, OwnM.nil (Below.refl _ _) (Nat.le_refl _) (Nat.le_refl _)⟩
  case round =>
    obtain ⟨k, ap, c, acc, hk, rfl, rfl, H⟩ := hrel
    rename World => w3
    by_cases hlt : k < q
    · obtain ⟨ad, s, rfl, hs, cs, _⟩ := HC.out.at k hlt
      have HSS := hide hs
      have HLS := hide (lsts_at hs)
      have HCS := hide cs
      have hsn : tot (X.take k) + s.n ≤ tot X := by
        have h1 := tot_take X (k + 1)
        rw [take_one hs, tot_append] at h1
        simpa [tot] using h1
      have hal : acc.length ≤ 2 * tot (X.take k) := by rw [H.out.1]; exact mksTo_len HC.out.src k (by rw [HL.out]; omega)
      have HSR := hide (HC.out.src s (List.mem_of_getElem? hs))
      clear hs cs
      obtain ⟨sa, sn, sc, sL⟩ := s
      simp only at hsn HCS HSR HLS
      have HSL : Hid (sL.length = sn) := HSR.out.len
      obtain ⟨tk, Htk⟩ : ∃ tk, Hid (tot (X.take k) = tk) := ⟨_, rfl⟩
      rw [Htk.out] at hsn hal
      go_wp2_with fail
      go_loopw [3, 5] (fun v i wr => ∃ (j : Nat) (ap : Option Addr) (c : Nat) (acc : List Mk), j ≤ sn ∧ acc.length ≤ 2 * tk + 2 * j ∧ v = .slice ap acc.length c ∧ i = .int .i64 j ∧ Hid (acc = mksTo (lsts X) k ++ mks1 k (sL.take j) ∧ OwnM w.heap.size w.heap.size w wr ap c acc)) (fun _ i _ => sn - (intOf i).toNat)
      case atStart => exact ⟨0, ap, c, acc, Nat.zero_le _, by omega, rfl, rfl, by rw [H.out.1]; simp [mks1], H.out.2⟩
      case round =>
        clear H hal
        obtain ⟨j, ap, c, acc, hj, hal, rfl, rfl, H⟩ := hrel
        rename World => w4
        have d0 : w4.cell? (ad.add k) = some (.slice sa sn sc) := by rw [H.out.2.below.cell (World.block_lt_of_cell? _ _ HCS.out)]; exact HCS.out
        by_cases hjl : j < sn
        · have HS4 := hide (HSR.out.below H.out.2.below)
          obtain ⟨sd, rfl, _⟩ := HS4.out.at j hjl
          obtain ⟨b, o, rfl⟩ := HS4.out.spot (by omega)
          obtain ⟨c0, c1⟩ := HS4.out.nums j hjl
          obtain ⟨r, Hr⟩ : ∃ r, Hid (sL.getD j rn0 = r) := ⟨_, rfl⟩
          rw [Hr.out] at c0 c1
          have hkl : j < sL.length := by rw [HSL.out]; exact hjl
          have HT : Hid (mksTo (lsts X) k ++ mks1 k (sL.take (j + 1)) = acc ++ mkr k r) := by
            show _ = _
            rw [List.take_succ_eq_append_getElem hkl, show sL[j] = r by rw [← Hr.out]; simp [List.getD, hkl], mks1_append, mks1_one, ← List.append_assoc, ← H.out.1]
          have HO4 := hide H.out.2
          obtain ⟨lo, hi⟩ := r
          simp only at c0 c1
          clear hkl
          by_cases h1 : lo < 1
          · by_cases h2 : 1000000000 < hi
            · have hhi : (1000000000 : Int) ≤ 1000000000 := by omega
              by_cases hc : (1 : Int) ≤ (1000000000 : Int)
              · have HN : Hid (mksTo (lsts X) k ++ mks1 k (sL.take (j + 1)) = acc ++ [⟨(1 : Int), k, 1⟩] ++ [⟨(1000000000 : Int) + 1, k, -1⟩]) := by
                  show _ = _
                  rw [HT.out]
                  have e1 : (clip ⟨lo, hi⟩).lo = (1 : Int) := by unfold clip; simp only; omega
                  have e2 : (clip ⟨lo, hi⟩).hi = (1000000000 : Int) := by unfold clip; simp only; omega
                  unfold mkr; rw [e1, e2, if_pos hc]; simp
                have hlo : 1 ≤ (1 : Int) := by omega
                have hw1 : IntKind.i64.wrap ((1000000000 : Int) + 1) = (1000000000 : Int) + 1 := by rw [IntKind.wrap_i64]; omega
                go_wp2_with (at_builtin; first | (refine HO4.out.append ⟨(1 : Int), k, 1⟩ _ rfl (by omega) rfl (.tmp 46) (.tmp 50) rfl acc.length rfl rfl rfl ?_; intro g5 c5 w5 O5) | (refine O5.append ⟨(1000000000 : Int) + 1, k, -1⟩ _ rfl (by simp; omega) rfl (.tmp 52) (.tmp 57) rfl (acc.length + 1) (by simp) rfl rfl ?_; intro g6 c6 w6 O6))
                go_roundw
                case rel => exact ⟨j + 1, some ⟨g6, 0, none⟩, c6, acc ++ [⟨(1 : Int), k, 1⟩] ++ [⟨(1000000000 : Int) + 1, k, -1⟩], by omega, by simp; omega, by simp, by go_num, HN.out.symm, O6⟩
                case measure => simp [intOf]; omega
              · exact absurd (by omega) hc
            · have hhi : hi ≤ 1000000000 := by omega
              by_cases hc : (1 : Int) ≤ hi
              · have HN : Hid (mksTo (lsts X) k ++ mks1 k (sL.take (j + 1)) = acc ++ [⟨(1 : Int), k, 1⟩] ++ [⟨hi + 1, k, -1⟩]) := by
                  show _ = _
                  rw [HT.out]
                  have e1 : (clip ⟨lo, hi⟩).lo = (1 : Int) := by unfold clip; simp only; omega
                  have e2 : (clip ⟨lo, hi⟩).hi = hi := by unfold clip; simp only; omega
                  unfold mkr; rw [e1, e2, if_pos hc]; simp
                have hlo : 1 ≤ (1 : Int) := by omega
                have hw1 : IntKind.i64.wrap (hi + 1) = hi + 1 := by rw [IntKind.wrap_i64]; omega
                go_wp2_with (at_builtin; first | (refine HO4.out.append ⟨(1 : Int), k, 1⟩ _ rfl (by omega) rfl (.tmp 46) (.tmp 50) rfl acc.length rfl rfl rfl ?_; intro g5 c5 w5 O5) | (refine O5.append ⟨hi + 1, k, -1⟩ _ rfl (by simp; omega) rfl (.tmp 52) (.tmp 57) rfl (acc.length + 1) (by simp) rfl rfl ?_; intro g6 c6 w6 O6))
                go_roundw
                case rel => exact ⟨j + 1, some ⟨g6, 0, none⟩, c6, acc ++ [⟨(1 : Int), k, 1⟩] ++ [⟨hi + 1, k, -1⟩], by omega, by simp; omega, by simp, by go_num, HN.out.symm, O6⟩
                case measure => simp [intOf]; omega
              · have HN : Hid (mksTo (lsts X) k ++ mks1 k (sL.take (j + 1)) = acc) := by
                  show _ = _
                  rw [HT.out]
                  have e1 : (clip ⟨lo, hi⟩).lo = (1 : Int) := by unfold clip; simp only; omega
                  have e2 : (clip ⟨lo, hi⟩).hi = hi := by unfold clip; simp only; omega
                  unfold mkr; rw [e1, e2, if_neg hc]; simp
                go_wp2_with fail
                go_roundw
                case rel => exact ⟨j + 1, ap, c, acc, by omega, by omega, rfl, by go_num, HN.out.symm, HO4.out⟩
                case measure => simp [intOf]; omega
          · by_cases h2 : 1000000000 < hi
            · have hhi : (1000000000 : Int) ≤ 1000000000 := by omega
              by_cases hc : lo ≤ (1000000000 : Int)
              · have HN : Hid (mksTo (lsts X) k ++ mks1 k (sL.take (j + 1)) = acc ++ [⟨lo, k, 1⟩] ++ [⟨(1000000000 : Int) + 1, k, -1⟩]) := by
                  show _ = _
                  rw [HT.out]
                  have e1 : (clip ⟨lo, hi⟩).lo = lo := by unfold clip; simp only; omega
                  have e2 : (clip ⟨lo, hi⟩).hi = (1000000000 : Int) := by unfold clip; simp only; omega
                  unfold mkr; rw [e1, e2, if_pos hc]; simp
                have hlo : 1 ≤ lo := by omega
                have hw1 : IntKind.i64.wrap ((1000000000 : Int) + 1) = (1000000000 : Int) + 1 := by rw [IntKind.wrap_i64]; omega
                go_wp2_with (at_builtin; first | (refine HO4.out.append ⟨lo, k, 1⟩ _ rfl (by omega) rfl (.tmp 46) (.tmp 50) rfl acc.length rfl rfl rfl ?_; intro g5 c5 w5 O5) | (refine O5.append ⟨(1000000000 : Int) + 1, k, -1⟩ _ rfl (by simp; omega) rfl (.tmp 52) (.tmp 57) rfl (acc.length + 1) (by simp) rfl rfl ?_; intro g6 c6 w6 O6))
                go_roundw
                case rel => exact ⟨j + 1, some ⟨g6, 0, none⟩, c6, acc ++ [⟨lo, k, 1⟩] ++ [⟨(1000000000 : Int) + 1, k, -1⟩], by omega, by simp; omega, by simp, by go_num, HN.out.symm, O6⟩
                case measure => simp [intOf]; omega
              · have HN : Hid (mksTo (lsts X) k ++ mks1 k (sL.take (j + 1)) = acc) := by
                  show _ = _
                  rw [HT.out]
                  have e1 : (clip ⟨lo, hi⟩).lo = lo := by unfold clip; simp only; omega
                  have e2 : (clip ⟨lo, hi⟩).hi = (1000000000 : Int) := by unfold clip; simp only; omega
                  unfold mkr; rw [e1, e2, if_neg hc]; simp
                go_wp2_with fail
                go_roundw
                case rel => exact ⟨j + 1, ap, c, acc, by omega, by omega, rfl, by go_num, HN.out.symm, HO4.out⟩
                case measure => simp [intOf]; omega
            · have hhi : hi ≤ 1000000000 := by omega
              by_cases hc : lo ≤ hi
              · have HN : Hid (mksTo (lsts X) k ++ mks1 k (sL.take (j + 1)) = acc ++ [⟨lo, k, 1⟩] ++ [⟨hi + 1, k, -1⟩]) := by
                  show _ = _
                  rw [HT.out]
                  have e1 : (clip ⟨lo, hi⟩).lo = lo := by unfold clip; simp only; omega
                  have e2 : (clip ⟨lo, hi⟩).hi = hi := by unfold clip; simp only; omega
                  unfold mkr; rw [e1, e2, if_pos hc]; simp
                have hlo : 1 ≤ lo := by omega
                have hw1 : IntKind.i64.wrap (hi + 1) = hi + 1 := by rw [IntKind.wrap_i64]; omega
                go_wp2_with (at_builtin; first | (refine HO4.out.append ⟨lo, k, 1⟩ _ rfl (by omega) rfl (.tmp 46) (.tmp 50) rfl acc.length rfl rfl rfl ?_; intro g5 c5 w5 O5) | (refine O5.append ⟨hi + 1, k, -1⟩ _ rfl (by simp; omega) rfl (.tmp 52) (.tmp 57) rfl (acc.length + 1) (by simp) rfl rfl ?_; intro g6 c6 w6 O6))
                go_roundw
                case rel => exact ⟨j + 1, some ⟨g6, 0, none⟩, c6, acc ++ [⟨lo, k, 1⟩] ++ [⟨hi + 1, k, -1⟩], by omega, by simp; omega, by simp, by go_num, HN.out.symm, O6⟩
                case measure => simp [intOf]; omega
              · have HN : Hid (mksTo (lsts X) k ++ mks1 k (sL.take (j + 1)) = acc) := by
                  show _ = _
                  rw [HT.out]
                  have e1 : (clip ⟨lo, hi⟩).lo = lo := by unfold clip; simp only; omega
                  have e2 : (clip ⟨lo, hi⟩).hi = hi := by unfold clip; simp only; omega
                  unfold mkr; rw [e1, e2, if_neg hc]; simp
                go_wp2_with fail
                go_roundw
                case rel => exact ⟨j + 1, ap, c, acc, by omega, by omega, rfl, by go_num, HN.out.symm, HO4.out⟩
                case measure => simp [intOf]; omega
        · obtain rfl : j = sn := by omega
          have HN : Hid (acc = mksTo (lsts X) (k + 1)) := by
            show _ = _
            rw [H.out.1, mksTo, HLS.out, List.take_of_length_le (by rw [HSL.out]; exact Nat.le_refl _)]
          go_wp2_with fail
          go_roundw
          case rel => exact ⟨k + 1, ap, c, acc, by omega, rfl, by go_num, HN.out, H.out.2⟩
          case measure => simp [intOf]; omega
    · obtain rfl : k = q := by omega
      obtain ⟨S4, F4⟩ := H.out.2.src
      have HF : Hid (GivesM w w3 (.returned (.slice ap acc.length c)) (fun l => l = mksTo (lsts X) k)) := ⟨ap, _, c, acc, rfl, S4, F4, H.out.2.below, H.out.1⟩
      clear S4 F4
      go_wp2_with fail
      go_ret
      exact HF.out
end Go.Proofs.YtpolleieajgheaaDoor
