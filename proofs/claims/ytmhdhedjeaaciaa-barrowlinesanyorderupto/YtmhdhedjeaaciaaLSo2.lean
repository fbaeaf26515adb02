/- Sort, the reference's Sort: the walks. -/
import Derived.Test.YtmhdhedjeaaciaaLSor
namespace Go.Proofs.Ytmhdhedjeaaciaa
open Go.RowKit Go.Lib
attribute [local go_sem ↓] ld28_eq st28_eq
attribute [local go_sem] zero_EC cells_EV EC_size

theorem sort_err (L : List En) (k : Nat) (c : Int) (hk : k < L.length) (h : okTo L k) (hc : ceE (L.getD k en0) = c) (h0 : c ≠ 0) : Sorted L [] c := by
  have := firstE_at L k hk h c hc h0
  exact Or.inl ⟨by rw [this]; exact h0, rfl, this.symm⟩
set_option maxRecDepth 100000 in
set_option maxHeartbeats 4000000 in
theorem sort_any (ao : Option Addr) (n cap : Nat) (L : List En) (w : World) (hS : ESrc w ao n cap L) :
    Calls Try.prog 20 #[.slice ao n cap] w fun x w' => GivesQ w w' x L := by
  have HS := hide hS
  have hn := hS.2.2.2.2
  have HL : Hid (L.length = n) := hS.1
  clear hS
  go_enter Try.func20, Try.ntmps20
  go_wp2_with fail
  go_loopw [5, 6, 9] (fun _ _ i wr => ∃ k : Nat, k ≤ n ∧ i = .int .i64 k ∧ Hid (okTo L k ∧ Below w.heap.size w wr)) (fun _ _ i _ => n - (intOf i).toNat)
  case atStart => exact ⟨0, Nat.zero_le _, rfl, fun i hi => by omega, Below.refl _ _⟩
  case round =>
    obtain ⟨k, hk, rfl, H⟩ := hrel
    rename World => w4
    by_cases hlt : k < n
    · obtain ⟨ad, rfl, A0⟩ := (HS.out.below H.out.2).at k hlt
      have hld := run_ld28 A0
      obtain ⟨e, He⟩ : ∃ e, Hid (L.getD k en0 = e) := ⟨_, rfl⟩
      have HSK := hide (HS.out.sku k hlt)
      rw [He.out] at hld HSK
      clear A0
      obtain ⟨w1, hst, X1, B1, Z1⟩ := made w4 e w4.heap.size rfl
      have HB1 := hide (H.out.2.trans (B1.mono H.out.2.size))
      have lx := run_ld28 X1.at
      clear X1 B1
      obtain ⟨c, Hc⟩ : ∃ c, Hid (ceE e = c) := ⟨_, rfl⟩
      by_cases h0 : c = 0
      · have h0' : (c != 0) = false := by simpa using h0
        have HN : Hid (okTo L (k + 1)) := fun i hi => by
          by_cases ei : i = k
          · rw [ei, He.out, Hc.out, h0]
          · exact H.out.1 i (by omega)
        clear h0
        go_wp2_with (go_at_call 35; refine (checkEntry_ec e _ HSK.out).mono ?_; rintro x w2 ⟨rfl, b2⟩; rw [Hc.out])
        have HB2 := hide (HB1.out.trans (b2.mono HB1.out.size))
        clear b2
        go_roundw
        case rel => exact ⟨k + 1, by omega, by go_num, HN.out, HB2.out⟩
        case measure => simp [intOf]; omega
      · have h0' : (c != 0) = true := by simpa using h0
        have HF : Hid (Sorted L [] c) := sort_err L k c (by rw [HL.out]; exact hlt) H.out.1 (by rw [He.out, Hc.out]) h0
        clear h0
        go_wp2_with (go_at_call 35; refine (checkEntry_ec e _ HSK.out).mono ?_; rintro x w2 ⟨rfl, b2⟩; rw [Hc.out])
        have HB2 := hide (HB1.out.trans (b2.mono HB1.out.size))
        clear b2
        go_ret2
        exact ⟨none, 0, 0, [], c, rfl, ESrc.none _, HB2.out, fun ad h => (by cases h), HF.out⟩
    · obtain rfl : k = n := by omega
      have HF : Hid (firstE L = 0) := firstE_ok L (by rw [HL.out]; exact H.out.1)
      have HS4 := hide (HS.out.below H.out.2)
      have HB4 := hide H.out.2
      clear H
      cases ao with
      | none =>
        obtain ⟨rfl, rfl⟩ := HS4.out.2.1 rfl
        obtain rfl : L = [] := List.eq_nil_of_length_eq_zero HL.out
        go_wp2_with fail
        refine (clone_nil _).mono ?_
        rintro e w5 ⟨rfl, rfl⟩
        go_wp2_with fail
        refine (rising0 none 0 _).mono ?_
        rintro e w6 ⟨rfl, b6⟩
        have HN : Hid (Below w.heap.size w w6) := HB4.out.trans (b6.mono HB4.out.size)
        clear b6
        go_wp2_with fail
        go_ret2
        exact ⟨none, 0, 0, [], 0, rfl, ESrc.none _, HN.out, fun ad h => (by cases h), Or.inr ⟨rfl, settled_nil⟩⟩
      | some ad =>
        go_wp2_with fail
        refine (clone_any ad k cap L _ HS4.out).mono ?_
        rintro e w5 ⟨a5, c5, rfl, O5⟩
        have HO5 := hide O5
        have HB5 := hide (HB4.out.trans (O5.below.mono HB4.out.size))
        clear O5
        cases a5 with
        | none =>
          obtain ⟨S5, _⟩ := HO5.out.src HS4.out.2.2.2.1 (by rw [HL.out]; exact hn)
          obtain ⟨e1, rfl⟩ := S5.2.1 rfl
          obtain rfl : L = [] := List.eq_nil_of_length_eq_zero e1
          obtain rfl : 0 = k := HL.out
          clear S5 e1
          go_wp2_with fail
          refine (rising0 none 0 _).mono ?_
          rintro e w6 ⟨rfl, b6⟩
          have HN : Hid (Below w.heap.size w w6) := HB5.out.trans (b6.mono HB5.out.size)
          clear b6
          go_wp2_with fail
          go_ret2
          exact ⟨none, 0, 0, [], 0, rfl, ESrc.none _, HN.out, fun ad h => (by cases h), Or.inr ⟨rfl, settled_nil⟩⟩
        | some a5 =>
          obtain ⟨M5, hc1, hc2, hbb⟩ := HO5.out.mr
          have HM5 := hide M5
          have HC1 : Hid (k ≤ c5) := by show _ ≤ _; rw [← HL.out]; exact hc1
          have HC2 := hide hc2
          have HBB := hide hbb
          clear M5 hc1 hc2 hbb
          go_wp2_with fail
          refine (rising_any a5 c5 k L.toArray _ HM5.out (by rw [List.size_toArray]; exact HL.out) hn HC1.out HC2.out (by simpa using HS4.out.2.2.2.1)).mono ?_
          rintro e w6 ⟨a6, n6, c6, R6, er, rfl, S6, b6, f6, t6⟩
          have HN : Hid (ESrc w6 a6 n6 c6 R6 ∧ Below w.heap.size w w6 ∧ (∀ ad, a6 = some ad → w.heap.size ≤ ad.block) ∧ Sorted L R6 er) :=
            ⟨S6, HB5.out.trans (b6.mono (Nat.le_trans HB4.out.size HBB.out)), fun ad h => Nat.le_trans (Nat.le_trans HB4.out.size HBB.out) (f6 ad h), Or.inr ⟨HF.out, by simpa using t6⟩⟩
          clear S6 b6 f6 t6
          go_wp2_with fail
          go_ret2
          exact ⟨a6, n6, c6, R6, er, rfl, HN.out.1, HN.out.2.1, HN.out.2.2.1, HN.out.2.2.2⟩
end Go.Proofs.Ytmhdhedjeaaciaa
