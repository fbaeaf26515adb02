/- LinesOwners: the law's walk. -/
import Derived.Test.YtopgmkonigaalaaOw
import Derived.Test.YtopgmkonigaalaaOPl
import Derived.Test.YtopgmkonigaalaaSame
import Derived.Test.YtopgmkonigaalaaOwn2
namespace Go.Proofs.Ytopgmkonigaalaa
open Go.RowKit
attribute [local go_sem ↓] ld28_eq st28_eq
attribute [local go_sem] zero_EC cells_EV EC_size fold_EC

theorem sz1 (x : UInt8) : (⟨#[x]⟩ : ByteArray).size ≤ maxLen := by unfold maxLen; have : (⟨#[x]⟩ : ByteArray).size = 1 := rfl; omega
theorem of_some : ofE someL ⟨#[65]⟩ = 0 ∧ (ofV someL ⟨#[65]⟩).length = 2 := by decide +kernel
set_option maxHeartbeats 1600000 in
theorem owners_any (ao : Option Addr) (n cap : Nat) (L : List En) (s : ByteArray) (w : World) (hS : ESrc w ao n cap L) (hs : s.size ≤ maxLen) :
    Calls Try.prog 5 #[.slice ao n cap, .string s] w fun e w' => e = .returned (.bool true) ∧ Below w.heap.size w w' := by
  have HS := hide hS
  have hn := hS.2.2.2.2
  have HL : Hid (L.length = n) := hS.1
  have HSs := hide hs
  clear hS hs
  go_enter Try.func5, Try.ntmps5
  go_wp2_with fail
  refine (some_any _).mono ?_
  rintro x w1 ⟨a1, n1, c1, rfl, S1, b1, _⟩
  have S1' := hide S1
  have B1 := hide b1
  clear S1 b1
  go_wp2_with fail
  refine (of_any _ _ _ someL ⟨#[65]⟩ _ S1'.out (sz1 _)).mono ?_
  rintro x w2 ⟨a2, n2, c2, rfl, S2, b2, _⟩
  have hn2 : n2 = 2 := by rw [← S2.1]; exact of_some.2
  rw [of_some.1]
  subst hn2
  have B2 := hide (B1.out.trans (b2.mono B1.out.size))
  clear S2 b2 B1 S1'
  go_wp2_with fail
  refine (of_any _ _ _ L s _ (HS.out.below B2.out) HSs.out).mono ?_
  rintro x w3 ⟨a3, n3, c3, rfl, S3, b3, F3⟩
  have B3 := hide (B2.out.trans (b3.mono B2.out.size))
  have S3' := hide S3
  have HN3 : Hid ((ofV L s).length = n3) := S3.1
  obtain ⟨er, Her⟩ : ∃ er, Hid (ofE L s = er) := ⟨_, rfl⟩
  rw [Her.out]
  clear S3 b3 F3 B2
  go_wp2_with fail
  go_loopw [7, 8] (fun v i wr => ∃ (k : Nat) (ap : Option Addr) (c : Nat), k ≤ 16 ∧ v = .slice ap (cat L s k).length c ∧ i = .int .i64 k ∧ Hid (OwnE w3.heap.size w3.heap.size w3 wr ap c (cat L s k))) (fun _ i _ => 16 - (intOf i).toNat)
  case atStart => exact ⟨0, none, 0, Nat.zero_le _, rfl, rfl, OwnE.nil (Below.refl _ _) (Nat.le_refl _) (Nat.le_refl _)⟩
  case round =>
    obtain ⟨k, ap, c, hk, rfl, rfl, HO⟩ := hrel
    obtain ⟨acc, Hacc⟩ : ∃ acc, Hid (cat L s k = acc) := ⟨_, rfl⟩
    have hal : acc.length ≤ n := by rw [← Hacc.out, ← HL.out]; exact cat_len L s k hk
    rw [Hacc.out] at HO ⊢
    have BW := hide (B3.out.trans (HO.out.below.mono B3.out.size))
    by_cases hlt : k < 16
    · have HOE : Hid (owE L (k : Int) s = er) := by show _ = _; rw [ow_of L k s ((isR_iff _).2 (by omega))]; exact Her.out
      have HCn : Hid (cat L s (k + 1) = acc ++ owV L (k : Int) s) := by show _ = _; rw [cat_succ, Hacc.out]
      have hln : acc.length + (owV L (k : Int) s).length ≤ n := by
        have := cat_len L s (k + 1) (by omega); rw [HCn.out, List.length_append, HL.out] at this; exact this
      go_wp2_with fail
      refine (own_any _ _ _ L (k : Int) s _ (HS.out.below BW.out) HSs.out).mono ?_
      rintro x w4 ⟨a4, n4, c4, rfl, S4, b4, F4⟩
      rw [HOE.out]
      have HN4 : Hid ((owV L (k : Int) s).length = n4) := S4.1
      have S4' := hide S4
      have O4 := hide (HO.out.later b4)
      have F4' := hide F4
      have hln4 : acc.length + n4 ≤ n := by rw [← HN4.out]; exact hln
      clear S4 b4 F4 hln
      go_wp2_with fail
      go_loopw [7, 47] (fun v i wi => ∃ (j : Nat) (aq : Option Addr) (cq : Nat), j ≤ n4 ∧ v = .slice aq (acc.length + j) cq ∧ i = .int .i64 j ∧ Hid (OwnE w3.heap.size w3.heap.size w3 wi aq cq (acc ++ (owV L (k : Int) s).take j)) ∧ Hid (ESrc wi a4 n4 c4 (owV L (k : Int) s)) ∧ Hid (∀ ad, aq = some ad → ∀ bd, a4 = some bd → ad.block ≠ bd.block)) (fun _ i _ => n4 - (intOf i).toNat)
      case atStart => exact ⟨0, ap, c, Nat.zero_le _, rfl, rfl, by simpa using O4, S4', fun ad h bd hb => by have h1 := HO.out.lt ad h; have h2 := F4'.out bd hb; omega⟩
      case round =>
        obtain ⟨j, aq, cq, hj, rfl, rfl, HQ, HR, HD⟩ := hrel
        obtain ⟨own, Hown⟩ : ∃ own, Hid (owV L (k : Int) s = own) := ⟨_, rfl⟩
        rw [Hown.out] at HQ HR HN4 HCn
        have hlen : (acc ++ own.take j).length = acc.length + j := by rw [List.length_append, List.length_take, HN4.out]; omega
        by_cases hjl : j < n4
        · obtain ⟨bd, rfl, A0⟩ := HR.out.at j hjl
          have hld := run_ld28 A0
          obtain ⟨e, He⟩ : ∃ e, Hid (own.getD j en0 = e) := ⟨_, rfl⟩
          rw [He.out] at hld A0
          have HT := hide (take_snoc own j (by rw [HN4.out]; exact hjl))
          rw [He.out] at HT
          have hmem : e ∈ owV L (k : Int) s := by
            rw [Hown.out, ← He.out]; simp only [List.getD, List.getElem?_eq_getElem (show j < own.length by rw [HN4.out]; exact hjl), Option.getD_some]; exact List.getElem_mem _
          obtain ⟨hr1, hr2, _⟩ := owV_mem L (k : Int) s e hmem
          have hr3 : (e.rep != (k : Int)) = false := by simpa using hr1
          have hr4 : (e.sku.toList == s.toList) = true := hr2
          obtain ⟨w5, hst, X5, B5, Z5⟩ := made wr e wr.heap.size rfl
          have HX := hide X5
          have O5 := hide (HQ.out.later B5)
          have R5 := hide (HR.out.below B5)
          have x0 := X5.at.c0
          have x2 := X5.at.c2
          rw [Addr.add_lit, Nat.zero_add] at x2
          have lx := run_ld28 X5.at
          clear X5 B5 A0 hmem hr1 hr2
          have O5' := O5.out
          have HLE := hide hlen
          have hle2 : (acc ++ own.take j).length < 3518437208883 := by omega
          have HLE2 := hide hle2
          have HZ5 := hide Z5
          clear hlen hle2 Z5
          go_wp2_with (at_builtin; refine O5'.append2 e _ rfl HLE2.out rfl (.tmp 62) (.tmp 64) rfl (acc.length + j) HLE.out rfl rfl ?_; intro g6 c6 w6 O6 hk6 hg6)
          have hZ5 := HZ5.out
          have hbd : bd.block < wr.heap.size := by
            have := World.block_lt_of_cell? _ _ (HR.out.2.2.1 bd rfl j hjl).c0
            rwa [block_add] at this
          have hne : ∀ ad, aq = some ad → ad.block ≠ bd.block := fun ad h => HD.out ad h bd rfl
          have R6 : Hid (ESrc w6 (some bd) n4 c4 own) := R5.out.kept (fun ad h => by obtain rfl := Option.some.inj h; exact hk6 bd.block (by omega) hne)
          have D6 : Hid (∀ ad, some (⟨g6, 0, none⟩ : Addr) = some ad → ∀ b', some bd = some b' → ad.block ≠ b'.block) := by
            intro ad h b' h'
            obtain rfl := Option.some.inj h
            obtain rfl := Option.some.inj h'
            rcases hg6 with ⟨ad, ha, rfl⟩ | hg
            · exact hne ad ha
            · show g6 ≠ bd.block; omega
          go_roundw
          case rel => exact ⟨j + 1, some ⟨g6, 0, none⟩, c6, by omega, by rw [Nat.add_assoc], by go_num, by rw [Hown.out, HT.out, ← List.append_assoc]; exact O6, by rw [Hown.out]; exact R6, D6⟩
          case measure => simp [intOf]; omega
        · obtain rfl : j = n4 := by omega
          have HTk : Hid (own.take j = own) := by show _ = _; exact List.take_of_length_le (by rw [HN4.out]; exact Nat.le_refl _)
          rw [HTk.out] at HQ
          go_wp2_with fail
          go_roundw
          case rel => exact ⟨k + 1, aq, cq, by omega, by rw [HCn.out, List.length_append, HN4.out], by go_num, by rw [HCn.out]; exact HQ⟩
          case measure => simp [intOf]; omega
    · obtain rfl : k = 16 := by omega
      rw [cat_all] at Hacc
      have hac : acc.length = n3 := by rw [← Hacc.out]; exact HN3.out
      by_cases h0 : er = 0
      · have h0' : (er != 0) = false := by simpa using h0
        have hsk : ∀ e ∈ acc, e.sku.size ≤ maxLen := by
          intro e he; rw [← Hacc.out, ← cat_all] at he; exact HS.out.2.2.2.1 e (cat_mem L s 16 e he)
        have SA := hide (HO.out.src hsk (by omega)).1
        have SB := hide (S3'.out.below HO.out.below)
        clear h0 hsk hac
        go_wp2_with (go_at_call 16; refine (same_any _ _ _ _ _ _ acc (ofV L s) _ SA.out SB.out Hacc.out.symm).mono ?_; rintro x w6 ⟨rfl, b6⟩)
        go_ret
        exact ⟨rfl, BW.out.trans (b6.mono BW.out.size)⟩
      · have h0' : (er != 0) = true := by simpa using h0
        have hz : acc = [] := by rw [← Hacc.out]; unfold ofV; rw [Her.out, if_neg h0]
        subst hz
        have hz3 : n3 = 0 := by rw [← hac]; rfl
        subst hz3
        clear h0 hac
        go_wp2_with fail
        go_ret
        exact ⟨rfl, BW.out⟩
end Go.Proofs.Ytopgmkonigaalaa
