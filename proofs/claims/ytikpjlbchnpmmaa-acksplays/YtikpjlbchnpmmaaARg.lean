/- The reference of acks: Of, Plan, All, Least. -/
import Derived.Test.YtikpjlbchnpmmaaARf
import Derived.Test.YtikpjlbchnpmmaaALs
import Derived.Maps.AppendAt
namespace Go.Proofs.Ytikpjlbchnpmmaa
open Go.RowKit
attribute [local go_sem ↓] ldN_eq stN_eq
attribute [local go_sem] to_NC NC_s0 NC_s1 NC_s2
variable {w w' : World} {g : Nat} {r s : Int} {f : Nat → Int}

/-- the book as numbers -/
def nf (L : List Rn) : Nat → Int := fun k => nbr (k : Int) L
theorem rof_any (bo : Option Addr) (bn bc : Nat) (L : List Rn) (p : Int) (w : World) (S : RSrc w bo bn bc L) : Calls Try.prog 20 #[TV r s bo bn bc, .int .i64 p] w fun e w' => e = .returned (.tuple #[.int .i64 (ofV r s (nf L) p), .int .i64 (peerE r s p)]) ∧ Below w.heap.size w w' := by
  obtain ⟨w1, hw1⟩ : ∃ w1, w.alloc (.cells #[.int .i64 r, .int .i64 s, .slice bo bn bc] 26) = w1 := ⟨_, rfl⟩
  have HB : Hid (Below w.heap.size w w1) := by rw [← hw1]; exact below_new _ _
  have HX : Hid (∀ W, Below w1.heap.size w1 W → W.cell? ⟨w.heap.size, 0, none⟩ = some (.int .i64 r) ∧ W.cell? ⟨w.heap.size, 1, none⟩ = some (.int .i64 s) ∧ W.cell? ⟨w.heap.size, 2, none⟩ = some (.slice bo bn bc)) := by
    intro W hb
    have hz : w1.heap.size = w.heap.size + 1 := by rw [← hw1]; simp
    rw [hb.cell (show w.heap.size < _ by omega), hb.cell (show w.heap.size < _ by omega), hb.cell (show w.heap.size < _ by omega), ← hw1, World.cell?_alloc_new, World.cell?_alloc_new, World.cell?_alloc_new]
    exact ⟨rfl, rfl, rfl⟩
  have HP := hide (rpeer_any (r := r) (s := s) bo bn bc p w1)
  have HS := hide (S.below HB.out)
  obtain ⟨x0, x1, x2⟩ := HX.out w1 (Below.refl _ _)
  clear S
  by_cases h : peerE r s p = 0
  · obtain ⟨p0, p1, p2⟩ := peer_zero h
    have HV : Hid (ofV r s (nf L) p = nbr p L) := by show _ = _; unfold ofV nf; rw [if_pos h, Int.toNat_of_nonneg p0]
    rw [HV.out, h]
    rw [h] at HP
    clear h p0 p1 p2
    go_enter Try.func20, Try.ntmps20
    go_wp2_with fail
    refine HP.out.mono ?_
    rintro e w2 ⟨rfl, b2⟩
    have HS2 := hide (HS.out.below b2)
    have HB2 := hide (HB.out.trans (b2.mono HB.out.size))
    obtain ⟨y0, y1, y2⟩ := HX.out w2 b2
    clear x0 x1 x2 b2 hw1
    go_wp2_with fail
    refine (number_any bo bn bc L p w2 HS2.out).mono ?_
    rintro e w3 ⟨rfl, b3⟩
    have HB3 := hide (HB2.out.trans (b3.mono HB2.out.size))
    clear b3
    go_wp2_with fail
    go_ret2
    exact ⟨rfl, HB3.out⟩
  · have HV : Hid (ofV r s (nf L) p = 0) := by show _ = _; unfold ofV; rw [if_neg h]
    rw [HV.out]
    obtain ⟨e, he⟩ : ∃ e, peerE r s p = e := ⟨_, rfl⟩
    rw [he] at h HP ⊢
    clear he
    go_enter Try.func20, Try.ntmps20
    go_wp2_with fail
    refine HP.out.mono ?_
    rintro e' w2 ⟨rfl, b2⟩
    have HB2 := hide (HB.out.trans (b2.mono HB.out.size))
    clear b2
    go_wp2_with fail
    go_ret2
    exact ⟨rfl, HB2.out⟩
set_option maxRecDepth 100000 in
theorem rplan_any (bo : Option Addr) (bn bc : Nat) (L : List Rn) (p a b : Int) (w : World) (S : RSrc w bo bn bc L) : Calls Try.prog 21 #[TV r s bo bn bc, .int .i64 p, .int .i64 a, .int .i64 b] w fun e w' =>
    e = .returned (.tuple #[NV (planV r s (nf L) p a b), .int .i64 (planE r s p a b)]) ∧ Below w.heap.size w w' := by
  obtain ⟨w1, hw1⟩ : ∃ w1, (w.alloc (.cells #[.int .i64 r, .int .i64 s, .slice bo bn bc] 26)).alloc (.cells (NC ⟨false, 0, 0⟩) 51) = w1 := ⟨_, rfl⟩
  obtain ⟨g0, hg0⟩ : ∃ g0, w.heap.size + 1 = g0 := ⟨_, rfl⟩
  have HB : Hid (Below w.heap.size w w1) := by rw [← hw1]; exact ((Below.refl _ _).alloc (Nat.le_refl _) _).alloc (by simp) _
  have HZ : Hid (w1.heap.size = w.heap.size + 2) := by show _ = _; rw [← hw1]; simp
  have HX : Hid (∀ W, Below w1.heap.size w1 W → W.cell? ⟨w.heap.size, 0, none⟩ = some (.int .i64 r) ∧ W.cell? ⟨w.heap.size, 1, none⟩ = some (.int .i64 s) ∧ W.cell? ⟨w.heap.size, 2, none⟩ = some (.slice bo bn bc) ∧ NBox W g0 ⟨false, 0, 0⟩) := by
    intro W hb
    have hz := HZ.out
    have e0 : w1.heap[w.heap.size]? = some (.cells #[.int .i64 r, .int .i64 s, .slice bo bn bc] 26 (0, 0)) := by
      rw [← hw1, Below.heap_alloc _ _ _ (by simp), heap_alloc_new]
    have h0 := (hb.block w.heap.size (by omega)).trans e0
    have n0 : NBox w1 g0 ⟨false, 0, 0⟩ := by
      have := nbox_new (w.alloc (.cells #[.int .i64 r, .int .i64 s, .slice bo bn bc] 26)) ⟨false, 0, 0⟩
      rw [World.size_alloc, hg0] at this
      rw [← hw1]; exact this
    exact ⟨by simp [World.cell?, h0], by simp [World.cell?, h0], by simp [World.cell?, h0], n0.below hb⟩
  have HP := hide (rpeer_any (r := r) (s := s) bo bn bc p w1)
  have HS := hide (S.below HB.out)
  have HG : Hid (w.heap.size ≤ g0) := by show _ ≤ _; omega
  have HFin : Hid (∀ W q, Below w1.heap.size w1 W → Below w.heap.size w (W.setRow g0 (NC q)) ∧ NBox (W.setRow g0 (NC q)) g0 q) := fun W q hb =>
    ⟨below_setRow (HB.out.trans (hb.mono HB.out.size)) HG.out, (HX.out W hb).2.2.2.setRow⟩
  obtain ⟨x0, x1, x2, -⟩ := HX.out w1 (Below.refl _ _)
  clear S
  by_cases h : peerE r s p = 0
  · obtain ⟨p0, p1, p2⟩ := peer_zero h
    have HV : Hid (nf L p.toNat = nbr p L) := by show _ = _; unfold nf; rw [Int.toNat_of_nonneg p0]
    rw [h] at HP
    by_cases h1 : a < 0 ∨ b < a ∨ 4611686018427387904 < b
    · have HE : Hid (planE r s p a b = 2) := by show _ = _; unfold planE; rw [if_pos h, if_pos h1]
      have HW : Hid (planV r s (nf L) p a b = ⟨false, 0, 0⟩) := by show _ = _; unfold planV; rw [HE.out]; rfl
      rw [HE.out, HW.out]
      clear h p0 p1 p2
      go_enter Try.func21, Try.ntmps21
      go_wp2_with fail
      refine HP.out.mono ?_
      rintro e w2 ⟨rfl, b2⟩
      have HB2 := hide b2
      have hst : (stN (.pointer (some ⟨g0, 0, none⟩)) (.agg (NC ⟨false, 0, 0⟩))).run Try.prog w2 = .ok () (w2.setRow g0 (NC ⟨false, 0, 0⟩)) := run_stN (HX.out w2 b2).2.2.2
      clear b2 x0 x1 x2 hw1
      by_cases h2 : a < 0
      · clear h1
        go_wp2_with fail
        refine bodyPost_ret (v := .tuple #[NV ⟨false, 0, 0⟩, .int .i64 2]) ?_ rfl ⟨rfl, (HFin.out w2 _ HB2.out).1⟩
        exact resN Try.results21 rfl rfl (HFin.out w2 _ HB2.out).2
      · by_cases h3 : b < a
        · clear h1
          go_wp2_with fail
          refine bodyPost_ret (v := .tuple #[NV ⟨false, 0, 0⟩, .int .i64 2]) ?_ rfl ⟨rfl, (HFin.out w2 _ HB2.out).1⟩
          exact resN Try.results21 rfl rfl (HFin.out w2 _ HB2.out).2
        · have h4 : 4611686018427387904 < b := by omega
          clear h1
          go_wp2_with fail
          refine bodyPost_ret (v := .tuple #[NV ⟨false, 0, 0⟩, .int .i64 2]) ?_ rfl ⟨rfl, (HFin.out w2 _ HB2.out).1⟩
          exact resN Try.results21 rfl rfl (HFin.out w2 _ HB2.out).2
    · have HE : Hid (planE r s p a b = 0) := by show _ = _; unfold planE; rw [if_pos h, if_neg h1]
      have HW : Hid (planV r s (nf L) p a b = if nbr p L < a ∨ b < nbr p L then ⟨true, 0, b⟩ else ⟨false, nbr p L, b⟩) := by show _ = _; unfold planV; rw [if_pos HE.out, HV.out]
      rw [HE.out, HW.out]
      have k1 : ¬ a < 0 := by omega
      have k2 : ¬ b < a := by omega
      have k3 : ¬ 4611686018427387904 < b := by omega
      obtain ⟨z, hz⟩ : ∃ z, nbr p L = z := ⟨_, rfl⟩
      rw [hz]
      have HZ2 := hide hz
      clear h h1 p0 p1 p2 hz HW HV
      obtain ⟨V, hV⟩ : ∃ V : Pn, (if z < a ∨ b < z then ⟨true, 0, b⟩ else ⟨false, z, b⟩) = V := ⟨_, rfl⟩
      rw [hV]
      have HVV := hide hV
      clear hV
      go_enter Try.func21, Try.ntmps21
      go_wp2_with fail
      refine HP.out.mono ?_
      rintro e w2 ⟨rfl, b2⟩
      have HS2 := hide (HS.out.below b2)
      have HB2 := hide b2
      obtain ⟨y0, y1, y2, -⟩ := HX.out w2 b2
      clear x0 x1 x2 b2 hw1
      go_wp2_with fail
      refine (number_any bo bn bc L p w2 HS2.out).mono ?_
      rintro e w3 ⟨rfl, b3⟩
      rw [HZ2.out]
      have HB3 := hide (HB2.out.trans (b3.mono HB2.out.size))
      clear b3 y0 y1 y2
      by_cases h2 : z < a ∨ b < z
      · have e2 : (⟨true, 0, b⟩ : Pn) = V := by rw [← HVV.out, if_pos h2]
        subst e2
        have hst : (stN (.pointer (some ⟨g0, 0, none⟩)) (.agg (NC ⟨true, 0, b⟩))).run Try.prog w3 = .ok () (w3.setRow g0 (NC ⟨true, 0, b⟩)) := run_stN (HX.out w3 HB3.out).2.2.2
        by_cases h3 : z < a
        · clear h2
          go_wp2_with fail
          refine bodyPost_ret (v := .tuple #[NV ⟨true, 0, b⟩, .int .i64 0]) ?_ rfl ⟨rfl, (HFin.out w3 _ HB3.out).1⟩
          exact resN Try.results21 rfl rfl (HFin.out w3 _ HB3.out).2
        · have h4 : b < z := by omega
          clear h2
          go_wp2_with fail
          refine bodyPost_ret (v := .tuple #[NV ⟨true, 0, b⟩, .int .i64 0]) ?_ rfl ⟨rfl, (HFin.out w3 _ HB3.out).1⟩
          exact resN Try.results21 rfl rfl (HFin.out w3 _ HB3.out).2
      · have e2 : (⟨false, z, b⟩ : Pn) = V := by rw [← HVV.out, if_neg h2]
        subst e2
        have hst : (stN (.pointer (some ⟨g0, 0, none⟩)) (.agg (NC ⟨false, z, b⟩))).run Try.prog w3 = .ok () (w3.setRow g0 (NC ⟨false, z, b⟩)) := run_stN (HX.out w3 HB3.out).2.2.2
        have k4 : ¬ z < a := by omega
        have k5 : ¬ b < z := by omega
        clear h2
        go_wp2_with fail
        refine bodyPost_ret (v := .tuple #[NV ⟨false, z, b⟩, .int .i64 0]) ?_ rfl ⟨rfl, (HFin.out w3 _ HB3.out).1⟩
        exact resN Try.results21 rfl rfl (HFin.out w3 _ HB3.out).2
  · have HE : Hid (planE r s p a b = peerE r s p) := by show _ = _; unfold planE; rw [if_neg h]
    have HW : Hid (planV r s (nf L) p a b = ⟨false, 0, 0⟩) := by show _ = _; unfold planV; rw [HE.out, if_neg h]; rfl
    rw [HE.out, HW.out]
    obtain ⟨e, he⟩ : ∃ e, peerE r s p = e := ⟨_, rfl⟩
    rw [he] at h HP ⊢
    clear he
    go_enter Try.func21, Try.ntmps21
    go_wp2_with fail
    refine HP.out.mono ?_
    rintro e' w2 ⟨rfl, b2⟩
    have HB2 := hide b2
    have hst : (stN (.pointer (some ⟨g0, 0, none⟩)) (.agg (NC ⟨false, 0, 0⟩))).run Try.prog w2 = .ok () (w2.setRow g0 (NC ⟨false, 0, 0⟩)) := run_stN (HX.out w2 b2).2.2.2
    clear b2 x0 x1 x2 hw1
    go_wp2_with fail
    refine bodyPost_ret (v := .tuple #[NV ⟨false, 0, 0⟩, .int .i64 e]) ?_ rfl ⟨rfl, (HFin.out w2 _ HB2.out).1⟩
    exact resN Try.results21 rfl rfl (HFin.out w2 _ HB2.out).2
end Go.Proofs.Ytikpjlbchnpmmaa
