/- LinesChecks: the law's walk. -/
import Derived.Test.YtopgmkonigaalaaSome
namespace Go.Proofs.Ytopgmkonigaalaa
open Go.RowKit
attribute [local go_sem ↓] ld28_eq st28_eq
attribute [local go_sem] zero_EC cells_EV

theorem ce_one : ceE ⟨0, 1, ⟨#[65]⟩, 1⟩ = 0 := by decide +kernel
theorem ce_two : ceE ⟨16, 0, ⟨#[97]⟩, 0⟩ = 3 := by decide +kernel
theorem chk_some : chk someL = 0 := by decide +kernel
def twoL : List En := [⟨0, 3, ⟨#[65]⟩, 5⟩, ⟨0, 3, ⟨#[65]⟩, 1⟩]
theorem chk_two : chk twoL = 1 := by decide +kernel
theorem sz1 (x : UInt8) : (⟨#[x]⟩ : ByteArray).size ≤ maxLen := by unfold maxLen; have : (⟨#[x]⟩ : ByteArray).size = 1 := rfl; omega
theorem twoL_sku : ∀ e ∈ twoL, e.sku.size ≤ maxLen := by
  intro e he; simp only [twoL, List.mem_cons, List.not_mem_nil, or_false] at he; rcases he with rfl | rfl
  · exact sz1 _
  · exact sz1 _
set_option maxHeartbeats 1600000 in
theorem checks_any (ao : Option Addr) (n cap : Nat) (L : List En) (w : World) (hS : ESrc w ao n cap L) :
    Calls Try.prog 3 #[.slice ao n cap] w fun e w' => e = .returned (.bool true) ∧ Below w.heap.size w w' := by
  have HS := hide hS
  have hn := hS.2.2.2.2
  have HL : Hid (L.length = n) := hS.1
  clear hS
  go_enter Try.func3, Try.ntmps3
  go_wp2_with fail
  refine (entry_any 0 1 ⟨#[65]⟩ 1 _).mono ?_
  rintro x w1 ⟨rfl, b1⟩
  go_wp2_with fail
  refine (checkEntry_ec ⟨0, 1, ⟨#[65]⟩, 1⟩ _ (sz1 _)).mono ?_
  rintro x w2 ⟨rfl, b2⟩
  rw [ce_one]
  have B2 := hide (b1.trans (b2.mono b1.size))
  clear b1 b2
  go_wp2_with fail
  refine (entry_any 16 0 ⟨#[97]⟩ 0 _).mono ?_
  rintro x w3 ⟨rfl, b3⟩
  go_wp2_with fail
  refine (checkEntry_ec ⟨16, 0, ⟨#[97]⟩, 0⟩ _ (sz1 _)).mono ?_
  rintro x w4 ⟨rfl, b4⟩
  rw [ce_two]
  have B4 := hide ((B2.out.trans (b3.mono B2.out.size)).trans (b4.mono (B2.out.trans (b3.mono B2.out.size)).size))
  clear b3 b4 B2
  go_wp2_with fail
  refine (some_any _).mono ?_
  rintro x w5 ⟨ao5, n5, c5, rfl, S5, b5, _⟩
  have B5 := hide (B4.out.trans (b5.mono B4.out.size))
  have S5' := hide S5
  clear S5 b5 B4
  go_wp2_with fail
  refine (lcheck_any _ _ _ someL _ S5'.out).mono ?_
  rintro x w6 ⟨rfl, b6⟩
  rw [chk_some]
  have B6 := hide (B5.out.trans (b6.mono B5.out.size))
  clear b6 S5' B5
  go_wp2_with fail
  refine (entry_lit 0 3 ⟨#[65]⟩ 5 _).mono ?_
  rintro x w7 ⟨rfl, b7⟩
  go_wp2_with fail
  refine (entry_lit 0 3 ⟨#[65]⟩ 1 _).mono ?_
  rintro x w8 ⟨rfl, b8⟩
  have B8 := hide ((B6.out.trans (b7.mono B6.out.size)).trans (b8.mono (B6.out.trans (b7.mono B6.out.size)).size))
  have S8 := hide (lit_esrc w8 twoL #[.int .i64 0, .int .i64 3, .string ⟨#[65]⟩, .int .i64 5, .int .i64 0, .int .i64 3, .string ⟨#[65]⟩, .int .i64 1] rfl 28 2 rfl twoL_sku (by omega))
  clear b7 b8 B6
  go_wp2_with fail
  refine (lcheck_any _ _ _ twoL _ S8.out).mono ?_
  rintro x w9 ⟨rfl, b9⟩
  rw [chk_two]
  have B9 := hide ((B8.out.trans ((below_new _ _).mono B8.out.size)).trans (b9.mono (B8.out.trans ((below_new _ _).mono B8.out.size)).size))
  clear b9 S8 B8
  go_wp2_with fail
  refine (refCheckL_any _ _ _ L _ (HS.out.below B9.out)).mono ?_
  rintro x w10 ⟨rfl, b10⟩
  have B10 := hide (B9.out.trans (b10.mono B9.out.size))
  clear b10 B9
  obtain ⟨want, Hw⟩ : ∃ q, Hid (chk L = q) := ⟨_, rfl⟩
  rw [Hw.out]
  go_wp2_with fail
  go_loopw [28] (fun i wr => ∃ k : Nat, k ≤ n ∧ i = .int .i64 k ∧ Hid (Below w.heap.size w wr)) (fun i _ => n - (intOf i).toNat)
  case atStart => exact ⟨0, Nat.zero_le _, rfl, B10⟩
  case round =>
    obtain ⟨k, hk, rfl, HB⟩ := hrel
    by_cases hlt : k < n
    · obtain ⟨ad, rfl, A0⟩ := (HS.out.below HB.out).at k hlt
      have hld := run_ld28 A0
      obtain ⟨e, He⟩ : ∃ e, Hid (L.getD k en0 = e) := ⟨_, rfl⟩
      have hsk := HS.out.sku k hlt
      rw [He.out] at hld hsk A0
      obtain ⟨w1, hst, X1, B1, Z1⟩ := made wr e wr.heap.size rfl
      have HX := hide X1
      have HB1 := hide (HB.out.trans (B1.mono HB.out.size))
      have HSK := hide hsk
      clear X1 B1 hsk A0
      have le : ∀ d os, (ld28 (.pointer (some ⟨wr.heap.size, 0, none⟩))).run Try.prog (Sort.grow (redrawn w1 d) os) = .ok (EV e) (Sort.grow (redrawn w1 d) os) := fun d os => run_ld28 (HX.out.below (below_regrown w1 d os)).at
      obtain ⟨c, Hc⟩ : ∃ c, Hid (ceE e = c) := ⟨_, rfl⟩
      have cE : ∀ d os, Calls Try.prog 6 #[EV e] (Sort.grow (redrawn w1 d) os) fun x w'' => x = .returned (.int .i64 c) ∧ ∃ p : Regrown, w'' = Sort.grow (redrawn w1 p.d) p.os := fun d os => by
        have := checkEntry_ec e (Sort.grow (redrawn w1 d) os) HSK.out
        rw [Hc.out] at this
        exact Calls.regrown_of this
      have cR : ∀ d os, Calls Try.prog 11 #[EV e] (Sort.grow (redrawn w1 d) os) fun x w'' => x = .returned (.int .i64 c) ∧ ∃ p : Regrown, w'' = Sort.grow (redrawn w1 p.d) p.os := fun d os => by
        have := refCheckEntry_ec e (Sort.grow (redrawn w1 d) os) HSK.out
        rw [Hc.out] at this
        exact Calls.regrown_of this
      go_wp2_with fail
      refine wp_region_quiet_below (by kernel_rfl) (by kernel_rfl) ?_
      repeat (with_reducible (refine wpQuiet_step ?_); intro K hK; go_simp; (try rw [if_neg (by unfold undef; simp)]); first | (with_reducible (refine hK _ ?_); clear hK K) | (apply Exists.intro; refine ⟨fun _ => ?_, hK _ ?_⟩; (first | (go_at_call 6; exact cE _ _) | (go_at_call 11; exact cR _ _)); clear hK K))
      with_reducible (refine wpQuiet_nil ?_)
      intro _ hw'
      obtain ⟨⟨dq, osq⟩, hw''⟩ := hw'
      subst hw''
      have HBE : Hid (Below w.heap.size w (Sort.grow (redrawn w1 dq) osq)) := HB1.out.trans ((below_regrown w1 dq osq).mono HB1.out.size)
      go_wp2_with fail
      go_roundw
      case rel => exact ⟨k + 1, by omega, by go_num, HBE⟩
      case measure => simp [intOf]; omega
    · go_wp2_with (go_at_call 8; refine (lcheck_any _ _ _ L _ (HS.out.below HB.out)).mono ?_; rintro x w11 ⟨rfl, b11⟩; rw [Hw.out])
      go_ret
      exact ⟨ret_bool (by simp), HB.out.trans (b11.mono HB.out.size)⟩
end Go.Proofs.Ytopgmkonigaalaa
