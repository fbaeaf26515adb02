/- The reference's Union: its contract. -/
import Derived.Test.YtagkcfnmhfihlaaUn
namespace Go.Proofs.Ytagkcfnmhfihlaa
open Go.RowKit Go.Lib
attribute [local go_sem ↓] ld28_eq st28_eq
attribute [local go_sem] zero_EC cells_EV EC_size fold_EC

set_option maxRecDepth 100000 in
set_option maxHeartbeats 8000000 in
theorem refUnion_any (ao bo : Option Addr) (n cap m cap' : Nat) (A B : List En) (w : World) (hS : ESrc w ao n cap A) (hR : ESrc w bo m cap' B) :
    Calls Try.prog 13 #[.slice ao n cap, .slice bo m cap'] w fun e w' => GivesU w w' e A B := by
  have HS := hide hS
  have HR := hide hR
  clear hS hR
  obtain ⟨p, Hp⟩ : ∃ p, Hid (chk A = p) := ⟨_, rfl⟩
  obtain ⟨q, Hq⟩ : ∃ q, Hid (chk B = q) := ⟨_, rfl⟩
  by_cases h1 : p = 0
  · by_cases h2 : q = 0
    · have HA : Hid (chk A = 0 ∧ chk B = 0) := ⟨Hp.out.trans h1, Hq.out.trans h2⟩
      have d1 : (p != 0) = false := by simpa using h1
      have d2 : (q != 0) = false := by simpa using h2
      have HLA : Hid (A.length = n) := HS.out.1
      have HLB : Hid (B.length = m) := HR.out.1
      have hlen : n + m ≤ 3518437208883 := by
        have l1 := chk_len HA.out.1
        have l2 := chk_len HA.out.2
        rw [HS.out.1] at l1
        rw [HR.out.1] at l2
        omega
      clear h1 h2
      go_enter Try.func13, Try.ntmps13
      go_wp2_with fail
      refine (refCheckL_any ao n cap A _ HS.out).mono ?_
      rintro e w1 ⟨rfl, b1⟩
      rw [Hp.out]
      have HB1 := hide b1
      clear b1
      go_wp2_with fail
      refine (refCheckL_any bo m cap' B _ (HR.out.below HB1.out)).mono ?_
      rintro e w2 ⟨rfl, b2⟩
      rw [Hq.out]
      have HB2 := hide (HB1.out.trans (b2.mono HB1.out.size))
      clear b2 HB1
      go_wp2_with fail
      go_loopw [6, 7] (fun v i wr => ∃ (k : Nat) (ap : Option Addr) (c : Nat), k ≤ n ∧ v = .slice ap (A.take k).length c ∧ i = .int .i64 k ∧ Hid (OwnE w.heap.size w2.heap.size w wr ap c (A.take k))) (fun _ i _ => n - (intOf i).toNat)
      case atStart => exact ⟨0, none, 0, Nat.zero_le _, rfl, rfl, OwnE.nil HB2.out (Nat.le_refl _) HB2.out.size⟩
      case round =>
        obtain ⟨k, ap, c, hk, rfl, rfl, HO⟩ := hrel
        obtain ⟨acc, Hacc⟩ : ∃ acc, Hid (A.take k = acc) := ⟨_, rfl⟩
        have hal : acc.length = k := by rw [← Hacc.out, List.length_take, HLA.out]; omega
        rw [Hacc.out] at HO ⊢
        by_cases hlt : k < n
        · obtain ⟨ad, rfl, A0⟩ := (HS.out.below HO.out.below).at k hlt
          have hld := run_ld28 A0
          obtain ⟨e, He⟩ : ∃ e, Hid (A.getD k en0 = e) := ⟨_, rfl⟩
          rw [He.out] at hld A0
          have HT := hide (take_snoc A k (by rw [HLA.out]; exact hlt))
          rw [He.out, Hacc.out] at HT
          clear A0
          go_wp2_with (at_builtin; refine HO.out.append e _ rfl (by omega) rfl (.tmp 23) (.tmp 28) rfl acc.length rfl rfl rfl ?_; intro g4 c4 w4 O4 hk4)
          go_roundw
          case rel => exact ⟨k + 1, some ⟨g4, 0, none⟩, c4, by omega, by rw [HT.out]; simp [hal], by go_num, by rw [HT.out]; exact O4⟩
          case measure => simp [intOf]; omega
        · obtain rfl : k = n := by omega
          obtain rfl : A = acc := by rw [← Hacc.out, List.take_of_length_le (by rw [HLA.out]; exact Nat.le_refl _)]
          clear Hacc hal
          go_wp2_with fail
          go_loopw [6, 8] (fun v i wr => ∃ (j : Nat) (ap : Option Addr) (c : Nat), j ≤ m ∧ v = .slice ap (A ++ B.take j).length c ∧ i = .int .i64 j ∧ Hid (OwnE w.heap.size w2.heap.size w wr ap c (A ++ B.take j))) (fun _ i _ => m - (intOf i).toNat)
          case atStart => exact ⟨0, ap, c, Nat.zero_le _, by simp, rfl, by simpa using HO⟩
          case round =>
            clear HO
            obtain ⟨j, ap, c, hj, rfl, rfl, HO⟩ := hrel
            obtain ⟨acc, Hacc⟩ : ∃ acc, Hid (A ++ B.take j = acc) := ⟨_, rfl⟩
            have hal : acc.length = k + j := by rw [← Hacc.out, List.length_append, List.length_take, HLA.out, HLB.out]; omega
            rw [Hacc.out] at HO ⊢
            by_cases hlt : j < m
            · obtain ⟨bd, rfl, A0⟩ := (HR.out.below HO.out.below).at j hlt
              have hld := run_ld28 A0
              obtain ⟨e, He⟩ : ∃ e, Hid (B.getD j en0 = e) := ⟨_, rfl⟩
              rw [He.out] at hld A0
              have HT : Hid (A ++ B.take (j + 1) = acc ++ [e]) := by show _ = _; rw [take_snoc B j (by rw [HLB.out]; exact hlt), ← List.append_assoc, Hacc.out, He.out]
              clear A0
              go_wp2_with (at_builtin; refine HO.out.append e _ rfl (by omega) rfl (.tmp 36) (.tmp 41) rfl acc.length rfl rfl rfl ?_; intro g4 c4 w4 O4 hk4)
              go_roundw
              case rel => exact ⟨j + 1, some ⟨g4, 0, none⟩, c4, by omega, by rw [HT.out]; simp [hal], by go_num, by rw [HT.out]; exact O4⟩
              case measure => simp [intOf]; omega
            · obtain rfl : j = m := by omega
              have HE : Hid (A ++ B = acc) := by show _ = _; rw [← Hacc.out, List.take_of_length_le (by rw [HLB.out]; exact Nat.le_refl _)]
              have hsk : ∀ e ∈ acc, e.sku.size ≤ maxLen := fun e he => by
                rw [← HE.out] at he
                rcases List.mem_append.1 he with h | h
                · exact HS.out.2.2.2.1 e h
                · exact HR.out.2.2.2.1 e h
              obtain ⟨S4, F4⟩ := HO.out.src hsk (by omega)
              have HS4 := hide S4
              have HB4 := hide HO.out.below
              clear S4 F4 hsk HO
              go_wp2_with fail
              rw [← hal]
              refine (sorted_any ap acc.length c acc _ HS4.out).mono ?_
              rintro e w5 ⟨R, ⟨hp, ho⟩, a5, n5, c5, rfl, S5, b5, _⟩
              have HS5 := hide S5
              have HOR := hide ho
              have HPM : Hid (∀ x, x ∈ R ↔ x ∈ A ++ B) := fun x => by rw [HE.out]; exact hp.mem_iff
              have HB5 := hide (HB4.out.trans (b5.mono HB4.out.size))
              clear S5 ho hp b5
              go_wp2_with fail
              refine (once_any a5 n5 c5 R _ HS5.out HOR.out).mono ?_
              rintro e w6 ⟨a6, n6, c6, R6, er, rfl, S6, b6, f6, t6⟩
              have HN : Hid (GivesU w w6 (.returned (.tuple #[.slice a6 n6 c6, .int .i64 er])) A B) :=
                ⟨a6, n6, c6, R6, er, rfl, S6, HB5.out.trans (b6.mono HB5.out.size), Or.inr ⟨HA.out, t6.perm HPM.out⟩⟩
              clear S6 b6 f6 t6
              go_wp2_with fail
              go_ret2
              exact HN.out
    · have HX : Hid (¬ (chk A = 0 ∧ chk B = 0)) := fun h => h2 (Hq.out.symm.trans h.2)
      have d1 : (p != 0) = false := by simpa using h1
      have d2 : (q != 0) = true := by simpa using h2
      clear h1 h2
      go_enter Try.func13, Try.ntmps13
      go_wp2_with fail
      refine (refCheckL_any ao n cap A _ HS.out).mono ?_
      rintro e w1 ⟨rfl, b1⟩
      rw [Hp.out]
      have HB1 := hide b1
      clear b1
      go_wp2_with fail
      refine (refCheckL_any bo m cap' B _ (HR.out.below HB1.out)).mono ?_
      rintro e w2 ⟨rfl, b2⟩
      rw [Hq.out]
      have HB2 := hide (HB1.out.trans (b2.mono HB1.out.size))
      clear b2
      go_wp2_with fail
      go_ret2
      exact unionBad HX.out HB2.out
  · have HX : Hid (¬ (chk A = 0 ∧ chk B = 0)) := fun h => h1 (Hp.out.symm.trans h.1)
    have d1 : (p != 0) = true := by simpa using h1
    clear h1
    go_enter Try.func13, Try.ntmps13
    go_wp2_with fail
    refine (refCheckL_any ao n cap A _ HS.out).mono ?_
    rintro e w1 ⟨rfl, b1⟩
    rw [Hp.out]
    have HB1 := hide b1
    clear b1
    go_wp2_with fail
    go_ret2
    exact unionBad HX.out HB1.out
end Go.Proofs.Ytagkcfnmhfihlaa
