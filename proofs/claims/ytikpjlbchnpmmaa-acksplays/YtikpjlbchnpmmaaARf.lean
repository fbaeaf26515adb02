/- The reference of acks: New, peer, Heard, number, Of, Plan. -/
import Derived.Test.YtikpjlbchnpmmaaAPr
namespace Go.Proofs.Ytikpjlbchnpmmaa
open Go.RowKit
variable {w w' : World} {g : Nat} {r s : Int} {f : Nat → Int}

/-- the greatest that the peer told -/
def nbr (p : Int) (L : List Rn) : Int := L.foldl (fun n x => if x.lo = p ∧ n < x.hi then x.hi else n) 0
theorem nbr_snoc (p : Int) (L : List Rn) (x : Rn) : nbr p (L ++ [x]) = if x.lo = p ∧ nbr p L < x.hi then x.hi else nbr p L := by unfold nbr; rw [List.foldl_append]; rfl
abbrev TV (r s : Int) (bo : Option Addr) (bn bc : Nat) : Value := .agg #[.int .i64 r, .int .i64 s, .slice bo bn bc]
theorem rnew_any (a b : Int) (w : World) : Calls Try.prog 18 #[.int .i64 a, .int .i64 b] w fun e w' => e = .returned (.int .i64 (newE a b)) ∧ w' = w := by
  by_cases h1 : a < 1
  · have HE : Hid (newE a b = 2) := by show _ = _; unfold newE; rw [if_pos (Or.inl h1)]
    rw [HE.out]
    go_enter Try.func18, Try.ntmps18
    go_wp2
    go_ret
    exact ⟨rfl, rfl⟩
  · by_cases h2 : 16 < a
    · have HE : Hid (newE a b = 2) := by show _ = _; unfold newE; rw [if_pos (Or.inr h2)]
      rw [HE.out]
      go_enter Try.func18, Try.ntmps18
      go_wp2
      go_ret
      exact ⟨rfl, rfl⟩
    · have HN : Hid (¬ (a < 1 ∨ 16 < a)) := by show ¬ _; omega
      by_cases h3 : b < 0
      · have HE : Hid (newE a b = 3) := by show _ = _; unfold newE; rw [if_neg HN.out, if_pos (Or.inl h3)]
        rw [HE.out]
        go_enter Try.func18, Try.ntmps18
        go_wp2
        go_ret
        exact ⟨rfl, rfl⟩
      · by_cases h4 : a ≤ b
        · have HE : Hid (newE a b = 3) := by show _ = _; unfold newE; rw [if_neg HN.out, if_pos (Or.inr h4)]
          rw [HE.out]
          go_enter Try.func18, Try.ntmps18
          go_wp2
          go_ret
          exact ⟨rfl, rfl⟩
        · have HE : Hid (newE a b = 0) := by show _ = _; unfold newE; rw [if_neg HN.out, if_neg (by omega)]
          rw [HE.out]
          go_enter Try.func18, Try.ntmps18
          go_wp2
          go_ret
          exact ⟨rfl, rfl⟩
theorem rpeer_any (bo : Option Addr) (bn bc : Nat) (p : Int) (w : World) : Calls Try.prog 26 #[TV r s bo bn bc, .int .i64 p] w fun e w' => e = .returned (.int .i64 (peerE r s p)) ∧ Below w.heap.size w w' := by
  have HB : Hid (Below w.heap.size w (w.alloc (.cells #[.int .i64 r, .int .i64 s, .slice bo bn bc] 26))) := below_new _ _
  by_cases h1 : p < 0
  · have HE : Hid (peerE r s p = 3) := by show _ = _; unfold peerE; rw [if_pos (Or.inl h1)]
    rw [HE.out]
    go_enter Try.func26, Try.ntmps26
    go_wp2
    go_ret
    exact ⟨rfl, HB.out⟩
  · by_cases h2 : r ≤ p
    · have HE : Hid (peerE r s p = 3) := by show _ = _; unfold peerE; rw [if_pos (Or.inr h2)]
      rw [HE.out]
      go_enter Try.func26, Try.ntmps26
      go_wp2
      go_ret
      exact ⟨rfl, HB.out⟩
    · have HN : Hid (¬ (p < 0 ∨ r ≤ p)) := by show ¬ _; omega
      by_cases h3 : p = s
      · have HE : Hid (peerE r s p = 16) := by show _ = _; unfold peerE; rw [if_neg HN.out, if_pos h3]
        rw [HE.out]
        go_enter Try.func26, Try.ntmps26
        go_wp2
        go_ret
        exact ⟨rfl, HB.out⟩
      · have HE : Hid (peerE r s p = 0) := by show _ = _; unfold peerE; rw [if_neg HN.out, if_neg h3]
        rw [HE.out]
        go_enter Try.func26, Try.ntmps26
        go_wp2
        go_ret
        exact ⟨rfl, HB.out⟩
theorem rheard_any (bo : Option Addr) (bn bc : Nat) (p hi : Int) (w : World) : Calls Try.prog 19 #[TV r s bo bn bc, .int .i64 p, .int .i64 hi] w fun e w' => e = .returned (.int .i64 (heardE r s p hi)) ∧ Below w.heap.size w w' := by
  have HB : Hid (Below w.heap.size w (w.alloc (.cells #[.int .i64 r, .int .i64 s, .slice bo bn bc] 26))) := below_new _ _
  have HC := hide (rpeer_any (r := r) (s := s) bo bn bc p (w.alloc (.cells #[.int .i64 r, .int .i64 s, .slice bo bn bc] 26)))
  by_cases h : peerE r s p = 0
  · rw [h] at HC
    by_cases h1 : hi < 0
    · have HE : Hid (heardE r s p hi = 2) := by show _ = _; unfold heardE; rw [if_pos h, if_pos (Or.inl h1)]
      rw [HE.out]
      clear h
      go_enter Try.func19, Try.ntmps19
      go_wp2_with (go_at_call 26; refine HC.out.mono ?_; rintro e' w' ⟨rfl, b'⟩)
      go_ret
      exact ⟨rfl, HB.out.trans (b'.mono HB.out.size)⟩
    · by_cases h2 : 4611686018427387904 < hi
      · have HE : Hid (heardE r s p hi = 2) := by show _ = _; unfold heardE; rw [if_pos h, if_pos (Or.inr h2)]
        rw [HE.out]
        clear h
        go_enter Try.func19, Try.ntmps19
        go_wp2_with (go_at_call 26; refine HC.out.mono ?_; rintro e' w' ⟨rfl, b'⟩)
        go_ret
        exact ⟨rfl, HB.out.trans (b'.mono HB.out.size)⟩
      · have HE : Hid (heardE r s p hi = 0) := by show _ = _; unfold heardE; rw [if_pos h, if_neg (by omega)]
        rw [HE.out]
        clear h
        go_enter Try.func19, Try.ntmps19
        go_wp2_with (go_at_call 26; refine HC.out.mono ?_; rintro e' w' ⟨rfl, b'⟩)
        go_ret
        exact ⟨rfl, HB.out.trans (b'.mono HB.out.size)⟩
  · have HE : Hid (heardE r s p hi = peerE r s p) := by show _ = _; unfold heardE; rw [if_neg h]
    rw [HE.out]
    obtain ⟨e, he⟩ : ∃ e, peerE r s p = e := ⟨_, rfl⟩
    rw [he] at h HC ⊢
    clear HE he
    go_enter Try.func19, Try.ntmps19
    go_wp2_with (go_at_call 26; refine HC.out.mono ?_; rintro e' w' ⟨rfl, b'⟩)
    go_ret
    exact ⟨rfl, HB.out.trans (b'.mono HB.out.size)⟩
theorem nbr_take (p : Int) (L : List Rn) (k : Nat) (hk : k < L.length) : nbr p (L.take (k + 1)) = if (L.getD k rn0).lo = p ∧ nbr p (L.take k) < (L.getD k rn0).hi then (L.getD k rn0).hi else nbr p (L.take k) := by
  rw [List.take_succ_eq_append_getElem hk, nbr_snoc]
  simp [List.getD, hk]
set_option maxRecDepth 100000 in
theorem number_any (bo : Option Addr) (bn bc : Nat) (L : List Rn) (p : Int) (w : World) (S : RSrc w bo bn bc L) : Calls Try.prog 25 #[TV r s bo bn bc, .int .i64 p] w fun e w' => e = .returned (.int .i64 (nbr p L)) ∧ Below w.heap.size w w' := by
  obtain ⟨w1, hw1⟩ : ∃ w1, w.alloc (.cells #[.int .i64 r, .int .i64 s, .slice bo bn bc] 26) = w1 := ⟨_, rfl⟩
  have HB : Hid (Below w.heap.size w w1) := by rw [← hw1]; exact below_new _ _
  have HS := hide (S.below HB.out)
  have c2 : w1.cell? ⟨w.heap.size, 2, none⟩ = some (.slice bo bn bc) := by rw [← hw1, World.cell?_alloc_new]; rfl
  have HN : Hid (bn ≤ 8796093022207 ∧ L.length = bn) := ⟨S.big, S.len⟩
  clear S
  go_enter Try.func25, Try.ntmps25
  go_wp2_with fail
  clear hw1
  go_loopw [5, 6] (fun n i wr => ∃ k : Nat, k ≤ bn ∧ i = .int .i64 k ∧ n = .int .i64 (nbr p (L.take k)) ∧ wr = w1) (fun _ i _ => bn - (intOf i).toNat)
  case atStart => exact ⟨0, Nat.zero_le _, rfl, by simp [nbr], rfl⟩
  case round =>
    obtain ⟨k, hk, rfl, rfl, rfl⟩ := hrel
    by_cases hlt : k < bn
    · have HK1 : Hid (wrap64 ((k : Int) + 1) = ((k + 1 : Nat) : Int)) := by show _ = _; have := HN.out; rw [w64 (by omega) (by omega)]; rfl
      obtain ⟨ad, rfl, -⟩ := HS.out.at k hlt
      obtain ⟨bb, oo, rfl⟩ := HS.out.spot (by omega)
      obtain ⟨r0, r1⟩ := HS.out.nums k hlt
      have HT := hide (nbr_take p L k (by have := HN.out; omega))
      obtain ⟨x, hx⟩ : ∃ x, L.getD k rn0 = x := ⟨_, rfl⟩
      obtain ⟨n, hn⟩ : ∃ n, nbr p (L.take k) = n := ⟨_, rfl⟩
      rw [hx] at r0 r1 HT
      rw [hn] at HT ⊢
      obtain ⟨lo, hi⟩ := x
      simp only at r0 r1
      clear hx hn
      by_cases h1 : lo = p
      · by_cases h2 : n < hi
        · have HE : Hid (nbr p (L.take (k + 1)) = hi) := by show _ = _; rw [HT.out, if_pos ⟨h1, h2⟩]
          clear HT
          go_wp2_with fail
          go_roundw
          case rel => exact ⟨k + 1, by omega, by rw [HK1.out], by rw [HE.out], trivial⟩
          case measure => rw [HK1.out]; simp [intOf]; omega
        · have HE : Hid (nbr p (L.take (k + 1)) = n) := by show _ = _; rw [HT.out, if_neg (fun h => h2 h.2)]
          clear HT
          go_wp2_with fail
          go_roundw
          case rel => exact ⟨k + 1, by omega, by rw [HK1.out], by rw [HE.out], trivial⟩
          case measure => rw [HK1.out]; simp [intOf]; omega
      · have HE : Hid (nbr p (L.take (k + 1)) = n) := by show _ = _; rw [HT.out, if_neg (fun h => h1 h.1)]
        clear HT
        go_wp2_with fail
        go_roundw
        case rel => exact ⟨k + 1, by omega, by rw [HK1.out], by rw [HE.out], trivial⟩
        case measure => rw [HK1.out]; simp [intOf]; omega
    · have HT : Hid (L.take k = L) := by show _ = _; rw [List.take_of_length_le (by have := HN.out; omega)]
      rw [HT.out]
      go_wp2_with fail
      go_ret
      exact ⟨rfl, HB.out⟩
end Go.Proofs.Ytikpjlbchnpmmaa
