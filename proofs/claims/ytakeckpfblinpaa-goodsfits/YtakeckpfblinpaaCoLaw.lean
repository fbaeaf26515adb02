/- GoodsCleansOnce: the law's walk. -/
import Derived.Test.YtakeckpfblinpaaTyped
import Derived.Test.YtakeckpfblinpaaWidLaw
namespace Go.Proofs.Ytakeckpfblinpaa
open Go.RowKit

def kT : List UInt8 := [32, 97, 98, 95, 32, 49, 50, 32, 46, 32, 120, 32]
def kS : List UInt8 := [65, 66, 45, 49, 50, 46, 88]
theorem kT_E : clE kT = 0 := by decide +kernel
theorem kT_S : clS kT = kS := by decide +kernel
theorem kS_good : good kS = true := by decide +kernel
theorem clean_k (w : World) : Calls Try.prog 8 #[.string ⟨#[32, 97, 98, 95, 32, 49, 50, 32, 46, 32, 120, 32]⟩] w fun e w' => e = .returned (.tuple #[.string ⟨#[65, 66, 45, 49, 50, 46, 88]⟩, .int .i64 0]) ∧ Below w.heap.size w w' := by
  have h := clean_any (bs kT) w (by rw [bs_size]; unfold maxLen; decide)
  rw [bs_list, kT_E, kT_S] at h
  exact h
/-- Clean of a SKU -/
theorem clean_sku (S : List UInt8) (hg : good S = true) (w : World) : Calls Try.prog 8 #[.string (bs S)] w fun e w' => e = .returned (.tuple #[.string (bs S), .int .i64 0]) ∧ Below w.heap.size w w' := by
  have hl := ((good_iff S).1 hg).2.1
  have h := clean_any (bs S) w (by rw [bs_size]; unfold maxLen; omega)
  rw [bs_list, (clean_self S hg).1, (clean_self S hg).2] at h
  exact h
theorem good_sku (S : List UInt8) (hg : good S = true) (w : World) : Calls Try.prog 9 #[.string (bs S)] w fun e w' => e = .returned (.bool true) ∧ w' = w := by
  have hl := ((good_iff S).1 hg).2.1
  have h := good_any (bs S) w (by rw [bs_size]; unfold maxLen; omega)
  rw [bs_list, hg] at h
  exact h
theorem typed_sku (S : List UInt8) (hg : good S = true) (Z : List Int) (w : World) : Calls Try.prog 8 #[.string (bs (typedL S Z))] w fun e w' => e = .returned (.tuple #[.string (bs S), .int .i64 0]) ∧ Below w.heap.size w w' := by
  have hl := ((good_iff S).1 hg).2.1
  have h2 := typed_back S (kAt Z) hg
  have e : typedL S Z = [32, 9] ++ body S (kAt Z) S.length ++ [47, 32] := rfl
  rw [← e] at h2
  have h := clean_any (bs (typedL S Z)) w (by
    rw [bs_size]; unfold maxLen typedL; have := txt_len S Z S.length; simp only [List.length_append, List.length_cons, List.length_nil]; omega)
  rw [bs_list, h2.1, h2.2] at h
  exact h
theorem typed_ok (S : List UInt8) (hg : good S = true) (ao : Option Addr) (m cp : Nat) (Z : List Int) (w : World) (hZ : Src w ao m Z) :
    Calls Try.prog 10 #[.string (bs S), .slice ao m cp] w fun e w' => e = .returned (.string (bs (typedL S Z))) ∧ Below w.heap.size w w' := by
  have hl := ((good_iff S).1 hg).2.1
  have h := typed_any (bs S) ao m cp Z w (by rw [bs_size]; exact hl) hZ
  rw [bs_list] at h
  exact h
theorem Src.below {w w' : World} {ao : Option Addr} {m : Nat} {Z : List Int} (h : Src w ao m Z) (hb : Below w.heap.size w w') : Src w' ao m Z := by
  refine ⟨h.1, fun hm => ?_⟩
  obtain ⟨b, off, e, hlt, hc⟩ := h.2 hm
  exact ⟨b, off, e, Nat.lt_of_lt_of_le hlt hb.size, fun t ht => (hb.cell (p := ⟨b, off + t, none⟩) hlt).trans (hc t ht)⟩

set_option maxRecDepth 100000 in
set_option maxHeartbeats 4000000 in
theorem co_any (s : ByteArray) (ao : Option Addr) (m cp : Nat) (Z : List Int) (w : World) (hs : s.size ≤ maxLen) (hZ : Src w ao m Z) :
    Calls Try.prog 3 #[.string s, .slice ao m cp] w fun e w' => e = .returned (.bool true) ∧ Below w.heap.size w w' := by
  have HS := hide hs
  have HZ := hide hZ
  clear hs hZ
  by_cases hE : clE s.data.toList = 0
  · have HE := hide hE
    have HG := hide (clS_good hE)
    clear hE
    obtain ⟨S, hS⟩ : ∃ S, clS s.data.toList = S := ⟨_, rfl⟩
    rw [hS] at HG
    have HSS := hide hS
    clear hS
    go_enter Try.func3, Try.ntmps3
    go_wp2_with fail
    refine (clean_k _).mono ?_
    rintro e w1 ⟨rfl, hb1⟩
    go_wp2_with fail
    refine (clean_any s _ HS.out).mono ?_
    rintro e w2 ⟨rfl, hb2⟩
    rw [HE.out, HSS.out]
    go_wp2_with fail
    refine (good_sku S HG.out _).mono ?_
    rintro e w' ⟨rfl, rfl⟩
    go_wp2_with fail
    refine (clean_sku S HG.out _).mono ?_
    rintro e w3 ⟨rfl, hb3⟩
    have hb := below_all hb1 hb2 hb3
    go_wp2_with fail
    refine (typed_ok S HG.out ao m cp Z _ (HZ.out.below hb)).mono ?_
    rintro e w4 ⟨rfl, hb4⟩
    have hb' := below_on hb (Nat.le_refl _) hb4
    go_wp2_with fail
    refine (typed_sku S HG.out Z _).mono ?_
    rintro e w5 ⟨rfl, hb5⟩
    have hb'' := below_on hb' (Nat.le_refl _) hb5
    go_wp2
    go_ret
    exact ⟨by simp, hb''⟩
  · obtain ⟨f, HE⟩ : ∃ f : Int, Hid (clE s.data.toList = f) := ⟨_, rfl⟩
    have hf : (f == 0) = false := by rw [← HE.out]; simpa using hE
    have hf2 : (f != 0) = true := by rw [bne, hf]; rfl
    have HSS : Hid (clS s.data.toList = []) := by show _ = _; unfold clS; rw [if_neg hE]
    clear hE
    have hK : (⟨#[65, 66, 45, 49, 50, 46, 88]⟩ : ByteArray) = bs kS := rfl
    go_enter Try.func3, Try.ntmps3
    go_wp2_with fail
    refine (clean_k _).mono ?_
    rintro e w1 ⟨rfl, hb1⟩
    go_wp2_with fail
    refine (clean_any s _ HS.out).mono ?_
    rintro e w2 ⟨rfl, hb2⟩
    rw [HE.out, HSS.out]
    have hee : (bs []).toList.isEmpty = true := empty_yes _ (by rw [bs_size]; rfl)
    go_wp2_with fail
    refine (good_sku kS kS_good _).mono ?_
    rintro e w' ⟨rfl, rfl⟩
    go_wp2_with fail
    refine (clean_sku kS kS_good _).mono ?_
    rintro e w3 ⟨rfl, hb3⟩
    have hb := below_all hb1 hb2 hb3
    go_wp2_with fail
    refine (typed_ok kS kS_good ao m cp Z _ (HZ.out.below hb)).mono ?_
    rintro e w4 ⟨rfl, hb4⟩
    have hb' := below_on hb (Nat.le_refl _) hb4
    go_wp2_with fail
    refine (typed_sku kS kS_good Z _).mono ?_
    rintro e w5 ⟨rfl, hb5⟩
    have hb'' := below_on hb' (Nat.le_refl _) hb5
    go_wp2
    go_ret
    exact ⟨by simp, hb''⟩
end Go.Proofs.Ytakeckpfblinpaa
