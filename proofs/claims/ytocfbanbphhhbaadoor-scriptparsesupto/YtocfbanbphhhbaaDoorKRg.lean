/- The reference's head. -/
import Derived.Test.YtocfbanbphhhbaaDoorKRc
import Derived.Test.YtocfbanbphhhbaaDoorKHd
import Derived.OrdersHeld
namespace Go.Proofs.YtocfbanbphhhbaaDoor
open Go.RowKit T Y V
variable {w w' w2 : World} {g : Nat}
attribute [local go_sem ↓] ldSh_eq stSh_eq ldO_eq stO_eq ldHd_eq stHd_eq ldS_eq stS_eq

set_option maxRecDepth 100000 in
set_option maxHeartbeats 6400000 in
theorem rhead_any (bo : Option Addr) (n c : Nat) (ws : List (List UInt8)) (w : World) (hR : SR w bo n c (ws.map bs)) (_ : n ≤ 1000000000000) (hw : ∀ l ∈ ws, l.length ≤ 1000000000000) : Calls Tryd.prog 19 #[.slice bo n c] w fun e w' => HdA ws e ∧ Below w.heap.size w w' := by
  have hlen := hR.len
  rw [List.length_map] at hlen
  obtain ⟨w1, hw1, hz1, hb1, hs1⟩ := hd_zero w
  obtain ⟨w2, hst2, hx2, k2⟩ := hd_put (o := hd0) hz1
  have hst2' : (stHd (.pointer (some ⟨w.heap.size, 0, none⟩)) (.agg #[.int .i64 0, .int .i64 0, .int .i64 0, .int .i64 0, .int .i64 0, .int .i64 0])).run Tryd.prog w1 = .ok () w2 := hst2
  have HX2 := hide hx2
  have HB2 : Hid (Below w.heap.size w w2) := hb1.trans (k2.below (Nat.le_refl _) hb1.size)
  by_cases h7 : n = 7
  · obtain ⟨w0, r, hws⟩ : ∃ w0 r, ws = w0 :: r := by
      cases ws with
      | nil => simp at hlen; omega
      | cons a b => exact ⟨a, b, rfl⟩
    subst hws
    have hr6 : r.length = 6 := by simp at hlen; omega
    obtain ⟨b, rfl, hc, hnc⟩ := SR_at hR (by omega)
    have hbl : b < w.heap.size := hR.lt b rfl
    have hcell : ∀ j l, (w0 :: r)[j]? = some l → w.cell? ⟨b, j, none⟩ = some (.string (bs l)) := fun j l hj => hc j (bs l) (by rw [List.getElem?_map, hj]; rfl)
    have d0 : w1.cell? ⟨b, 0, none⟩ = some (.string (bs w0)) := (hb1.cell hbl).trans (hcell 0 w0 rfl)
    have h0I : (0 : Int) < n := by omega
    have h7b : ((n : Int) == 7) = true := by rw [beq_iff_eq]; omega
    have h7c : ((n : Int) != 7) = false := by rw [bne, h7b]; rfl
    by_cases hst : w0 = storeL
    · have hq : ((bs w0).toList == [115, 116, 111, 114, 101]) = true := by rw [hst, ByteArray.toList_eq, bs_list]; rfl
      have HF : Hid (headP (w0 :: r) = numsOf r) := by show _ = _; unfold headP; rw [if_pos ⟨hst, by simp [hr6]⟩]; rfl
      obtain ⟨w3, hw3⟩ : ∃ w3, w1.alloc (.cells #[.int .i64 0, .int .i64 0, .int .i64 0, .int .i64 0, .int .i64 0, .int .i64 0] 65) = w3 := ⟨_, rfl⟩
      have b3 : Below w1.heap.size w1 w3 := by rw [← hw3]; exact below_new _ _
      have HQ0 : Hid (Hq w w3 w.heap.size w1.heap.size b (w0 :: r) [0, 0, 0, 0, 0, 0]) := ⟨hz1.below b3, by rw [← hw3, heap_alloc_new]; rfl, fun j l hj => (b3.cell (by show b < _; omega)).trans ((hb1.cell hbl).trans (hcell j l hj)), hb1.trans (b3.mono hb1.size), hbl, Nat.le_refl _, by omega⟩
      have HW := hide hw
      have Hr6 := hide hr6
      have HN7 := hide h7
      clear hR hw hz1 hb1 hs1 hlen hc hcell hst2 hst2' hx2 k2 b3 hst HX2 HB2 h7 hr6
      go_enter Tryd.func19, Tryd.ntmps19
      go_wp2_with fail
      clear d0 hq
      go_loopw [5] (fun v wr => ∃ (i : Nat) (N : List Int), i ≤ 6 ∧ v = .int .i64 (i : Int) ∧ Hid (N.length = 6) ∧ Hid (Hq w wr w.heap.size w1.heap.size b (w0 :: r) N) ∧ Hid (numsOf r = (numsOf (r.drop i)).map (N.take i ++ ·))) (fun v _ => 6 - (intOf v).toNat)
      case atStart => exact ⟨0, [0, 0, 0, 0, 0, 0], by omega, rfl, rfl, HQ0, (by show _ = _; simp)⟩
      case round =>
        clear HQ0
        obtain ⟨i, N, hi, rfl, HN, HQ, HA⟩ := hrel
        by_cases hlt : i < 6
        · have hiI : (i : Int) < 6 := by omega
          obtain ⟨l, hl⟩ : ∃ l, r.getD i [] = l := ⟨_, rfl⟩
          have hir : i < r.length := by have := Hr6.out; omega
          have hrl : r[i]? = some l := by rw [← hl]; simp [List.getD, hir]
          have hll : l.length ≤ 1000000000000 := HW.out l (List.mem_cons_of_mem _ (List.mem_of_getElem? hrl))
          obtain ⟨i1, hi1⟩ : ∃ i1, i + 1 = i1 := ⟨_, rfl⟩
          have e1 : (i : Int) + 1 = (i1 : Int) := by omega
          have h1n : (i1 : Int) < n := by have := HN7.out; omega
          have d1 : wr.cell? ⟨b, i1, none⟩ = some (.string (bs l)) := HQ.out.c i1 l (by rw [← hi1]; exact hrl)
          have hS := numsOf_step hir HA.out (by have := HN.out; omega)
          rw [hl] at hS
          have HS := hide hS
          have HC := hide (rnum_any l hll wr)
          have Hi1 := hide hi1
          unfold NuA at HC
          clear hS hl hrl hll hir HA hi1
          cases hx : numOf l with
          | none =>
            have HNo : Hid (headP (w0 :: r) = none) := by show _ = _; rw [HF.out]; exact HS.out.1 hx
            rw [hx] at HC
            obtain ⟨w7, hst7, hx7, k7⟩ := hd_put (o := hd0) HQ.out.z
            have hst7' : (stHd (.pointer (some ⟨w.heap.size, 0, none⟩)) (.agg #[.int .i64 0, .int .i64 0, .int .i64 0, .int .i64 0, .int .i64 0, .int .i64 0])).run Tryd.prog wr = .ok () w7 := hst7
            have HX7 := hide hx7
            have HB7 : Hid (Below w.heap.size w w7) := HQ.out.b.trans (k7.below (Nat.le_refl _) HQ.out.b.size)
            clear HS hx hx7 k7 hst7
            go_wp2_with fail
            refine HC.out.mono ?_
            rintro e w5 ⟨rfl, rfl⟩
            clear HC
            go_wp2_with fail
            exact bodyPost_ret (res2Hd Tryd.results19 rfl rfl HX7.out) rfl ⟨HdA.no HNo.out, HB7.out⟩
          | some x =>
            have HA2 := hide (HS.out.2 x hx)
            rw [hx] at HC
            obtain ⟨c5, f5⟩ := HQ.out.cell i (by have := HN.out; omega)
            have HQ6 := hide (HQ.out.set i x)
            clear HS hx
            go_wp2_with fail
            refine HC.out.mono ?_
            rintro e w5 ⟨rfl, rfl⟩
            clear HC
            go_wp2_with fail
            go_roundw
            case rel => exact ⟨i + 1, N.set i x, by omega, by first | (have := Hi1.out; congr 1; omega) | go_num, by show _ = _; rw [List.length_set]; exact HN.out, HQ6, HA2⟩
            case measure => have := Hi1.out; simp [intOf]; omega
        · obtain rfl : i = 6 := by omega
          have HY : Hid (headP (w0 :: r) = some N) := by
            show _ = _
            rw [HF.out, HA.out, List.drop_eq_nil_of_le (by have := Hr6.out; omega), List.take_of_length_le (by have := HN.out; omega)]
            simp [numsOf]
          obtain ⟨e0, -⟩ := HQ.out.cell 0 (by have := HN.out; omega)
          obtain ⟨e1, -⟩ := HQ.out.cell 1 (by have := HN.out; omega)
          obtain ⟨e2, -⟩ := HQ.out.cell 2 (by have := HN.out; omega)
          obtain ⟨e3, -⟩ := HQ.out.cell 3 (by have := HN.out; omega)
          obtain ⟨e4, -⟩ := HQ.out.cell 4 (by have := HN.out; omega)
          obtain ⟨e5, -⟩ := HQ.out.cell 5 (by have := HN.out; omega)
          obtain ⟨w7, hst7, hx7, k7⟩ := hd_put (o := hdL N) HQ.out.z
          have hst7' : (stHd (.pointer (some ⟨w.heap.size, 0, none⟩)) (.agg #[.int .i64 (N.getD 0 0), .int .i64 (N.getD 1 0), .int .i64 (N.getD 2 0), .int .i64 (N.getD 3 0), .int .i64 (N.getD 4 0), .int .i64 (N.getD 5 0)])).run Tryd.prog wr = .ok () w7 := hst7
          have HX7 := hide hx7
          have HB7 : Hid (Below w.heap.size w w7) := HQ.out.b.trans (k7.below (Nat.le_refl _) HQ.out.b.size)
          obtain ⟨n0, h0⟩ : ∃ x, N.getD 0 0 = x := ⟨_, rfl⟩
          obtain ⟨n1, h1⟩ : ∃ x, N.getD 1 0 = x := ⟨_, rfl⟩
          obtain ⟨n2, h2⟩ : ∃ x, N.getD 2 0 = x := ⟨_, rfl⟩
          obtain ⟨n3, h3⟩ : ∃ x, N.getD 3 0 = x := ⟨_, rfl⟩
          obtain ⟨n4, h4⟩ : ∃ x, N.getD 4 0 = x := ⟨_, rfl⟩
          obtain ⟨n5, h5⟩ : ∃ x, N.getD 5 0 = x := ⟨_, rfl⟩
          rw [h0] at e0 hst7'
          rw [h1] at e1 hst7'
          rw [h2] at e2 hst7'
          rw [h3] at e3 hst7'
          rw [h4] at e4 hst7'
          rw [h5] at e5 hst7'
          clear hx7 k7 hst7 HA h0 h1 h2 h3 h4 h5
          go_wp2_with fail
          exact bodyPost_ret (res2Hd Tryd.results19 rfl rfl HX7.out) rfl ⟨HdA.yes HY.out, HB7.out⟩
    · have hq : ((bs w0).toList == [115, 116, 111, 114, 101]) = false := by
        rw [ByteArray.toList_eq, bs_list, beq_eq_false_iff_ne]
        exact hst
      have HNo : Hid (headP (w0 :: r) = none) := by show _ = _; unfold headP; rw [if_neg (fun h => hst h.1)]
      clear hR hw hz1 hb1 hs1 hlen hc hcell hst2 hx2 k2 hst h7
      go_enter Tryd.func19, Tryd.ntmps19
      go_wp2_with fail
      exact bodyPost_ret (res2Hd Tryd.results19 rfl rfl HX2.out) rfl ⟨HdA.no HNo.out, HB2.out⟩
  · have HNo : Hid (headP ws = none) := by show _ = _; unfold headP; rw [if_neg (by intro h; have := h.2; omega)]
    have h7b : ((n : Int) == 7) = false := by rw [beq_eq_false_iff_ne]; omega
    have h7c : ((n : Int) != 7) = true := by rw [bne, h7b]; rfl
    clear hR hw hz1 hb1 hs1 hlen hst2 hx2 k2 h7
    go_enter Tryd.func19, Tryd.ntmps19
    go_wp2_with fail
    exact bodyPost_ret (res2Hd Tryd.results19 rfl rfl HX2.out) rfl ⟨HdA.no HNo.out, HB2.out⟩
end Go.Proofs.YtocfbanbphhhbaaDoor
