/- GoodsSorts: the law's walk. -/
import Derived.Test.YtllogonbickmcaaDoorSRf
namespace Go.Proofs.YtllogonbickmcaaDoor
open Go.RowKit Go.Sort Go.Lib

theorem refSort_any (ao : Option Addr) (n cap : Nat) (L : List TS) (w : World) (hS : SSrc w ao n cap L) : Calls Tryd.prog 5 #[.slice ao n cap] w fun x w' => GivesL w w' x L := refSort_all n n (Nat.le_refl _) ao cap L w hS
def tA10 : TS := ⟨⟨#[65, 49, 48]⟩, by unfold maxLen; have : (⟨#[65, 49, 48]⟩ : ByteArray).size = 3 := rfl; omega⟩
def tA2 : TS := ⟨⟨#[65, 50]⟩, by unfold maxLen; have : (⟨#[65, 50]⟩ : ByteArray).size = 2 := rfl; omega⟩
theorem lit2 (w : World) : SSrc (w.alloc (.cells #[.string ⟨#[65, 49, 48]⟩, .string ⟨#[65, 50]⟩] 9)) (some ⟨w.heap.size, 0, none⟩) 2 2 [tA10, tA2] := by
  refine ⟨rfl, fun e => (by cases e), fun ad ha t ht => ?_, Nat.le_refl _, by unfold maxLen; omega, by omega⟩
  obtain rfl := Option.some.inj ha
  rw [Addr.add_lit, Nat.zero_add]
  match t, ht with
  | 0, _ => simp [List.getD, tA10]
  | 1, _ => simp [List.getD, tA2]
theorem sort2 : SortS [tA10, tA2] [tA2, tA10] := by
  refine ⟨List.pairwise_cons.2 ⟨fun y hy => ?_, List.pairwise_singleton _ _⟩, fun x => ?_⟩
  · obtain rfl := List.mem_singleton.1 hy
    have : cS tA2 tA10 = -1 := by decide +kernel
    omega
  · simp only [List.mem_cons, List.not_mem_nil, or_false]
    exact Or.comm
set_option maxRecDepth 100000 in
set_option maxHeartbeats 4000000 in
theorem sorts_law (ao : Option Addr) (n cap : Nat) (L : List TS) (w : World) (hS : SSrc w ao n cap L) :
    Calls Tryd.prog 3 #[.slice ao n cap] w fun e w' => e = .returned (.bool true) ∧ Below w.heap.size w w' := by
  have HS := hide hS
  have HS0 := hide (lit2 w)
  have HB0 := hide (below_new w (.cells #[.string ⟨#[65, 49, 48]⟩, .string ⟨#[65, 50]⟩] 9))
  clear hS
  go_enter Tryd.func3, Tryd.ntmps3
  go_wp2_with fail
  refine (sortP_any _ 2 2 _ _ HS0.out).mono ?_
  rintro e w1 ⟨a1, n1, c1, R1, rfl, S1, b1, _, t1, _⟩
  obtain rfl := t1.unique sort2
  obtain rfl : 2 = n1 := S1.len
  obtain ⟨ad1, rfl, k1⟩ := S1.at 0 (by omega)
  have k1' : w1.cell? (ad1.add 0) = some (.string ⟨#[65, 50]⟩) := k1
  have e0 : ad1.add 0 = ad1 := by unfold Addr.add; split <;> simp_all
  rw [e0] at k1'
  have HB1 := hide (HB0.out.trans (b1.mono HB0.out.size))
  clear S1 b1 t1 k1 HS0 HB0 e0
  have hne : ((⟨#[65, 50]⟩ : ByteArray).toList == (⟨#[65, 50]⟩ : ByteArray).toList) = true := by simp
  go_wp2_with fail
  refine (refSort_any ao n cap L _ (HS.out.below HB1.out)).mono ?_
  rintro e w2 ⟨a2, n2, c2, R2, rfl, S2, b2, _, t2, _⟩
  have HS2 := hide S2
  have HT2 := hide t2
  have HB2 := hide (HB1.out.trans (b2.mono HB1.out.size))
  clear S2 b2 t2 k1'
  go_wp2_with fail
  refine (sortP_any ao n cap L _ (HS.out.below HB2.out)).mono ?_
  rintro e w3 ⟨a3, n3, c3, R3, rfl, S3, b3, _, t3, _⟩
  obtain rfl := t3.unique HT2.out
  have HS3 := hide S3
  have HS2' := hide (HS2.out.below b3)
  have HB3 := hide (HB2.out.trans (b3.mono HB2.out.size))
  obtain rfl : n3 = n2 := S3.len.symm.trans HS2.out.len
  have hn := S3.big
  clear S3 b3 t3
  have hnn : ((n3 : Int) != (n3 : Int)) = false := by simp
  go_wp2_with fail
  go_loopw [6] (fun i wr => ∃ k : Nat, k ≤ n3 ∧ i = .int .i64 k ∧ Hid (Below w3.heap.size w3 wr)) (fun i _ => n3 - (intOf i).toNat)
  case atStart => exact ⟨0, Nat.zero_le _, rfl, Below.refl _ _⟩
  case round =>
    obtain ⟨k, hk, rfl, H⟩ := hrel
    rename World => w4
    by_cases hlt : k < n3
    · obtain ⟨ad, rfl, cA⟩ := (HS3.out.below H.out).at k hlt
      obtain ⟨bd, rfl, cB⟩ := (HS2'.out.below H.out).at k hlt
      obtain ⟨x, Hx⟩ : ∃ x, Hid (R3.getD k dS = x) := ⟨_, rfl⟩
      rw [Hx.out] at cA cB
      have kA := cell_regrown cA
      have kB := cell_regrown cB
      have hxx : (x.1.toList == x.1.toList) = true := by simp
      clear cA cB
      go_wp2_with fail
      refine wp_region_quiet_below (by kernel_rfl) (by kernel_rfl) ?_
      repeat (with_reducible (refine wpQuiet_step ?_); intro K hK; go_simp; (try rw [if_neg (by unfold undef; simp)]); first | (with_reducible (refine hK _ ?_); clear hK K) | (apply Exists.intro; refine ⟨fun _ => ?_, hK _ ?_⟩; (fail); clear hK K))
      with_reducible (refine wpQuiet_nil ?_)
      intro w5 hw'
      obtain ⟨⟨dq, osq⟩, hw''⟩ := hw'
      have b5 : Below w4.heap.size w4 w5 := by rw [hw'']; exact below_regrown w4 dq osq
      clear hw'' dq osq
      have H5 := hide (H.out.trans (b5.mono H.out.size))
      clear b5 kA kB
      go_wp2_with fail
      go_roundw
      case rel => exact ⟨k + 1, by omega, by go_num, H5⟩
      case measure => simp [intOf]; omega
    · have HF := hide (HB3.out.trans (H.out.mono HB3.out.size))
      go_wp2_with fail
      go_ret
      exact ⟨rfl, HF.out⟩
end Go.Proofs.YtllogonbickmcaaDoor
