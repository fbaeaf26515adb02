/- GoodsWidens: the law's walk. -/
import Derived.Test.YtakeckpfblinpaaWid
namespace Go.Proofs.Ytakeckpfblinpaa
open Go.RowKit

def kW : ByteArray := ⟨#[55, 51, 53, 49, 51, 53, 51, 55]⟩
theorem kW_ok : gtE kW = 0 := by decide +kernel
theorem kW_wide : zs (14 - kW.size) ++ kW = ⟨#[48, 48, 48, 48, 48, 48, 55, 51, 53, 49, 51, 53, 51, 55]⟩ := by decide +kernel
theorem widen_k (w : World) : Calls Try.prog 14 #[.string ⟨#[55, 51, 53, 49, 51, 53, 51, 55]⟩] w fun e w' => e = .returned (.tuple #[.string ⟨#[48, 48, 48, 48, 48, 48, 55, 51, 53, 49, 51, 53, 51, 55]⟩, .int .i64 0]) ∧ Below w.heap.size w w' := by
  have h := widen_ok kW w kW_ok
  rw [kW_wide] at h
  exact h

theorem below_all {a b c d : World} (h1 : Below a.heap.size a b) (h2 : Below b.heap.size b c) (h3 : Below c.heap.size c d) : Below a.heap.size a d :=
  h1.trans ((h2.trans (h3.mono h2.size)).mono h1.size)

set_option maxRecDepth 100000 in
set_option maxHeartbeats 1600000 in
theorem widens_any (s : ByteArray) (w : World) (hs : s.size ≤ maxLen) :
    Calls Try.prog 5 #[.string s] w fun e w' => e = .returned (.bool true) ∧ Below w.heap.size w w' := by
  have HS := hide hs
  unfold maxLen at hs
  by_cases hf : gtE s = 0
  · have HF := hide hf
    obtain ⟨hsz, hn⟩ := gt_zero hf
    have HN := hide hn
    have hle : 8 ≤ s.size ∧ s.size ≤ 14 := by omega
    clear hsz hn hf
    obtain ⟨t, HT⟩ : ∃ t : ByteArray, Hid (zs (14 - s.size) ++ s = t) := ⟨_, rfl⟩
    have hts : t.size = 14 := by rw [← HT.out, wide_size]; omega
    have htz : Hid (∀ i (h : i < t.size), i < 14 - s.size → t[i] = 48) := fun i h hi => by
      have := HT.out; subst this; exact wide_zero s _ i hi h
    have htr : Hid (t.extract (14 - s.size) 14 = s) := by
      have e : 14 = 14 - s.size + s.size := by omega
      show t.extract (14 - s.size) 14 = s
      rw [← HT.out]
      conv => lhs; arg 3; rw [e]
      exact wide_rest s _
    go_enter Try.func5, Try.ntmps5
    go_wp2_with fail
    refine (widen_k _).mono ?_
    rintro e w1 ⟨rfl, hb1⟩
    go_wp2_with fail
    refine (gtin_any s _ HS.out).mono ?_
    rintro e w2 ⟨rfl, hb2⟩
    rw [HF.out, HN.out]
    go_wp2_with fail
    refine (widen_ok s _ HF.out).mono ?_
    rintro e w3 ⟨rfl, hb3⟩
    rw [HT.out]
    have hb := below_all hb1 hb2 hb3
    clear hb1 hb2 hb3
    go_wp2_with fail
    go_loop [7] (fun i => ∃ k : Nat, k ≤ 14 - s.size ∧ i = .int .i64 k) (fun i => 14 - (intOf i).toNat)
    case atStart => exact ⟨0, Nat.zero_le _, rfl⟩
    case round =>
      obtain ⟨k, hk, rfl⟩ := hrel
      by_cases hlt : k < 14 - s.size
      · have hz : (t[k]'(by omega)).toNat = 48 := by rw [htz.out k (by omega) hlt]; rfl
        have hlt' : (k : Int) < 14 - s.size := by omega
        go_wp2
        go_round
        case rel => exact ⟨k + 1, by omega, by go_num⟩
        case measure => simp [intOf]; omega
      · have hlt' : ¬ (k : Int) < 14 - s.size := by omega
        have hq : ((14 : Int) - (s.size : Int)).toNat = 14 - s.size := by omega
        go_wp2
        go_ret
        refine ⟨ret_bool ?_, hb⟩
        have e := htr.out
        simp [e]
  · obtain ⟨f, HF⟩ : ∃ f : Int, Hid (gtE s = f) := ⟨_, rfl⟩
    have hf0 : (f == 0) = false := by rw [← HF.out]; simpa using hf
    have HN : Hid (gtN s = 0) := by show _ = _; unfold gtN; rw [if_neg hf]
    clear hf
    have HB := hide (fun w => widen_bad s w HS.out f HF.out hf0)
    go_enter Try.func5, Try.ntmps5
    go_wp2_with fail
    refine (widen_k _).mono ?_
    rintro e w1 ⟨rfl, hb1⟩
    go_wp2_with fail
    refine (gtin_any s _ HS.out).mono ?_
    rintro e w2 ⟨rfl, hb2⟩
    rw [HF.out, HN.out]
    go_wp2_with fail
    refine (HB.out _).mono ?_
    rintro e w3 ⟨rfl, hb3⟩
    have hb := below_all hb1 hb2 hb3
    clear hb1 hb2 hb3
    go_wp2
    go_ret
    exact ⟨by simp, hb⟩
end Go.Proofs.Ytakeckpfblinpaa
