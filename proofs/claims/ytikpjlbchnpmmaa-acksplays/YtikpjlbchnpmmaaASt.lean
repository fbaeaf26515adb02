/- The law's four tables: start. -/
import Derived.Test.YtikpjlbchnpmmaaAPr
namespace Go.Proofs.Ytikpjlbchnpmmaa
open Go.RowKit
attribute [local go_sem ↓] ldA_eq stA_eq stP_eq
attribute [local go_sem] zero_PC
variable {w w' : World} {g : Nat} {r s : Int} {f : Nat → Int}

/-- the pairs behind k rounds: tables in the blocks from G on -/
def psk (G k : Nat) : Nat → Pr := fun t => if t < k then ⟨some ⟨G + t, 0, none⟩, 3, 1, none, 0, 0⟩ else pr0
theorem psk_step (G k t : Nat) : pset (psk G k) k ⟨some ⟨G + k, 0, none⟩, 3, 1, none, 0, 0⟩ t = psk G (k + 1) t := by
  unfold pset psk
  by_cases h : t = k
  · subst h; rw [if_pos rfl, if_pos (by omega)]
  · by_cases h2 : t < k
    · rw [if_neg h, if_pos h2, if_pos (by omega)]
    · rw [if_neg h, if_neg h2, if_neg (by omega)]
/-- the four pairs at the end: the first one has heard -/
def psE (G q c : Nat) : Nat → Pr := fun t => if t = 0 then ⟨some ⟨G, 0, none⟩, 3, 1, some ⟨q, 0, none⟩, 1, c⟩ else ⟨some ⟨G + t, 0, none⟩, 3, 1, none, 0, 0⟩
theorem start_mid {w w3 w5 : World} {G q c : Nat} (P0 : PBox w3 G fun _ => pr0) (P1 : PBox w3 (G + 1) (psk (G + 2) 4)) (T3 : Tb w3 (G + 2) 3 1 (fset (fun _ => 0) 0 4)) (Tk : ∀ j, 0 < j → j < 4 → Tb w3 (G + 2 + j) 3 1 fun _ => 0)
    (B3 : Below G w w3) (Z3 : w3.heap.size = G + 2 + 4) (O : OwnR w3.heap.size w3.heap.size w3 w5 (some ⟨q, 0, none⟩) c ([] ++ [⟨0, 4⟩])) :
    w5.cell? ⟨G + 1, 3, none⟩ = some (.slice none 0 0) ∧ w5.frozen? ⟨G + 1, 3, none⟩ = false ∧
    (ldA (.pointer (some ⟨G + 1, 0, none⟩))).run Try.prog (w5.setCell ⟨G + 1, 3, none⟩ (.slice (some ⟨q, 0, none⟩) 1 c)) = .ok (.agg (PC (psE (G + 2) q c))) (w5.setCell ⟨G + 1, 3, none⟩ (.slice (some ⟨q, 0, none⟩) 1 c)) ∧
    (stA (.pointer (some ⟨G, 0, none⟩)) (.agg (PC (psE (G + 2) q c)))).run Try.prog (w5.setCell ⟨G + 1, 3, none⟩ (.slice (some ⟨q, 0, none⟩) 1 c)) = .ok () ((w5.setCell ⟨G + 1, 3, none⟩ (.slice (some ⟨q, 0, none⟩) 1 c)).setRow G (PC (psE (G + 2) q c))) ∧
    Hid (PBox ((w5.setCell ⟨G + 1, 3, none⟩ (.slice (some ⟨q, 0, none⟩) 1 c)).setRow G (PC (psE (G + 2) q c))) G (psE (G + 2) q c) ∧
      Tb ((w5.setCell ⟨G + 1, 3, none⟩ (.slice (some ⟨q, 0, none⟩) 1 c)).setRow G (PC (psE (G + 2) q c))) (G + 2) 3 1 (fset (fun _ => 0) 0 4) ∧
      (∀ k, 0 < k → k < 4 → Tb ((w5.setCell ⟨G + 1, 3, none⟩ (.slice (some ⟨q, 0, none⟩) 1 c)).setRow G (PC (psE (G + 2) q c))) (G + 2 + k) 3 1 (fun _ => 0)) ∧
      ((w5.setCell ⟨G + 1, 3, none⟩ (.slice (some ⟨q, 0, none⟩) 1 c)).setRow G (PC (psE (G + 2) q c))).ownsRow (G + 6) 39 2 (.slice (some ⟨q, 0, none⟩) 1 c) 1 (rcs [⟨0, 4⟩]) ∧
      Below G w ((w5.setCell ⟨G + 1, 3, none⟩ (.slice (some ⟨q, 0, none⟩) 1 c)).setRow G (PC (psE (G + 2) q c)))) := by
  have hb := O.below
  have Q1 := P1.below hb
  have Q0 := P0.below hb
  have F1 := Fr.setCell w5 (G + 1) 3 (.slice (some ⟨q, 0, none⟩) 1 c)
  have Q1s := Q1.set 0 3 (by omega) (by omega) (.slice (some ⟨q, 0, none⟩) 1 c) ⟨some ⟨G + 2, 0, none⟩, 3, 1, some ⟨q, 0, none⟩, 1, c⟩ rfl
  have Q1e : PBox (w5.setCell ⟨G + 1, 3, none⟩ (.slice (some ⟨q, 0, none⟩) 1 c)) (G + 1) (psE (G + 2) q c) := Q1s.congr (fun k hk => by
    match k, hk with
    | 0, _ | 1, _ | 2, _ | 3, _ => rfl)
  have Q0s := Q0.on F1 (by omega)
  have F2 : Fr (w5.setCell ⟨G + 1, 3, none⟩ (.slice (some ⟨q, 0, none⟩) 1 c)) ((w5.setCell ⟨G + 1, 3, none⟩ (.slice (some ⟨q, 0, none⟩) 1 c)).setRow G (PC (psE (G + 2) q c))) G :=
    ⟨rfl, rfl, rfl, by simp [World.setRow], fun k hk => setRow_other _ _ _ _ hk⟩
  have hq : w3.heap.size ≤ q := by
    have := O.own.lt q rfl
    exact this.1
  refine ⟨Q1.c3 0 (by omega), Q1.fz 3, run_ldA Q1e, run_stA Q0s, Q0s.setRow, ((T3.below hb).on F1 (by omega)).on F2 (by omega), fun k h0 h4 => (((Tk k h0 h4).below hb).on F1 (by omega)).on F2 (by omega), ?_, F2.below (F1.below (B3.trans (hb.mono (by omega))) (by omega)) (Nat.le_refl _)⟩
  refine ⟨O.own.1, ?_⟩
  rcases O.own.2 with h | ⟨q2, cap2, cur, hv, hbg, hgg, r⟩
  · exact Or.inl h
  · refine Or.inr ⟨q2, cap2, cur, hv, by omega, ?_, r⟩
    rw [F2.block q2 (by omega), F1.block q2 (by omega)]
    exact hgg
set_option maxRecDepth 100000 in
set_option maxHeartbeats 2000000 in
theorem start_any (w : World) : Calls Try.prog 7 #[] w fun e w' => ∃ q c, e = .returned (.tuple #[PV (psE (w.heap.size + 2) q c), .bool true]) ∧
    Tb w' (w.heap.size + 2) 3 1 (fset (fun _ => 0) 0 4) ∧ (∀ k, 0 < k → k < 4 → Tb w' (w.heap.size + 2 + k) 3 1 (fun _ => 0)) ∧ w'.ownsRow (w.heap.size + 6) 39 2 (.slice (some ⟨q, 0, none⟩) 1 c) 1 (rcs [⟨0, 4⟩]) ∧ Below w.heap.size w w' := by
  obtain ⟨G, hG⟩ : ∃ G, w.heap.size = G := ⟨_, rfl⟩
  obtain ⟨w1, hw1⟩ : ∃ w1, (w.alloc (.cells (PC fun _ => pr0) 29)).alloc (.cells (PC fun _ => pr0) 29) = w1 := ⟨_, rfl⟩
  have HP0 : Hid (PBox w1 G (fun _ => pr0)) := by rw [← hw1, ← hG]; exact (pbox_new w _).below (below_new _ _)
  have HP1 : Hid (PBox w1 (G + 1) (psk (G + 2) 0)) := by
    rw [← hw1, ← hG]
    have := pbox_new (w.alloc (.cells (PC fun _ => pr0) 29)) (fun _ => pr0)
    rw [World.size_alloc] at this
    exact this.congr (fun k _ => by unfold psk; rw [if_neg (by omega)])
  have HB : Hid (Below G w w1) := by rw [← hw1, ← hG]; exact ((Below.refl _ _).alloc (Nat.le_refl _) _).alloc (by simp) _
  have HZ : Hid (w1.heap.size = G + 2) := by show _ = _; rw [← hw1, ← hG]; simp
  rw [hG]
  go_enter Try.func7, Try.ntmps7
  go_wp2_with fail
  go_loopw [3] (fun i wr => ∃ k : Nat, k ≤ 4 ∧ i = .int .i64 k ∧ Hid (PBox wr G fun _ => pr0) ∧ Hid (PBox wr (G + 1) (psk (G + 2) k)) ∧ Hid (∀ j, j < k → Tb wr (G + 2 + j) 3 1 fun _ => 0) ∧ Hid (Below G w wr) ∧ Hid (wr.heap.size = G + 2 + k)) (fun i _ => 4 - (intOf i).toNat)
  case atStart => exact ⟨0, Nat.zero_le _, rfl, HP0, HP1, (fun j hj => by omega), HB, HZ⟩
  case round =>
    obtain ⟨k, hk, rfl, A0, A1, AT, HBk, HZk⟩ := hrel
    by_cases hlt : k < 4
    · have HC := hide (new_ok 3 1 wr (by omega) (by omega) (by omega) (by omega))
      go_wp2_with fail
      refine HC.out.mono ?_
      rintro e w2 ⟨rfl, T2, b2, z2⟩
      have hs := HZk.out
      have A0' := A0.out.below b2
      obtain ⟨w3, hst, A3, F3⟩ := (A1.out.below b2).put k hlt ⟨some ⟨G + 2 + k, 0, none⟩, 3, 1, none, 0, 0⟩
      rw [hs] at T2 ⊢
      simp only at hst
      have HA0 := hide (A0'.on F3 (by omega))
      have HA1 := hide (A3.congr (fun t _ => psk_step (G + 2) k t))
      have HT : Hid (∀ j, j < k + 1 → Tb w3 (G + 2 + j) 3 1 fun _ => 0) := fun j hj => by
        by_cases e : j = k
        · subst e; exact T2.on F3 (by omega)
        · exact ((AT.out j (by omega)).below b2).on F3 (by omega)
      have HBn := hide (F3.below (HBk.out.trans (b2.mono (by have := HBk.out.size; omega))) (by omega : G ≤ G + 1))
      have HZn : Hid (w3.heap.size = G + 2 + (k + 1)) := by show _ = _; rw [F3.size, z2, hs]; rfl
      clear T2 b2 z2 hs A0' A3 F3 A0 A1 AT HBk HZk HC
      go_wp2_with fail
      go_roundw
      case rel => exact ⟨k + 1, by omega, by go_num, HA0, HA1, HT, HBn, HZn⟩
      case measure => simp [intOf]; omega
    · have hk4 : k = 4 := by omega
      rw [hk4] at A1 AT HZk
      clear hk4
      have HC := hide (new_bad 17 0 wr (by decide))
      have c0 : wr.cell? ⟨G + 1, 0, none⟩ = some (.pointer (some ⟨G + 2, 0, none⟩)) := A1.out.c0 0 (by omega)
      have hT0 : Tb wr (G + 2) 3 1 fun _ => 0 := AT.out 0 (by omega)
      have HH := hide (heard_any wr hT0 (by omega) 0 4)
      rw [show newE 17 0 = 2 from by decide] at HC
      rw [show heardE 3 1 0 4 = 0 from by decide] at HH
      clear hT0
      go_wp2_with (go_at_call 17; refine HC.out.mono ?_; rintro e w2 ⟨rfl, rfl⟩)
      refine HH.out.mono ?_
      rintro e w3 ⟨rfl, T3, F3⟩
      have B3 := F3.below HBk.out (by omega)
      have Z3 := F3.size
      have P0 := A0.out.on F3 (by omega)
      have P1 := A1.out.on F3 (by omega)
      have T3k : ∀ j, 0 < j → j < 4 → Tb w3 (G + 2 + j) 3 1 fun _ => 0 := fun j h0 h4 => (AT.out j h4).on F3 (by omega)
      have T3' : Tb w3 (G + 2) 3 1 (fset (fun _ => 0) 0 4) := T3
      rw [HZk.out] at Z3
      have HO := hide (of_any w3 T3' (by omega) 0)
      rw [show ofV 3 1 (fset (fun _ => 0) 0 4) 0 = 4 from by decide, show peerE 3 1 0 = 0 from by decide] at HO
      have d0 : w3.cell? ⟨G + 1, 0, none⟩ = some (.pointer (some ⟨G + 2, 0, none⟩)) := P1.c0 0 (by omega)
      have d3 : w3.cell? ⟨G + 1, 3, none⟩ = some (.slice none 0 0) := P1.c3 0 (by omega)
      have HB3 := hide B3
      have HZ3 := hide Z3
      have HP0 := hide P0
      have HP1 := hide P1
      have HT3 := hide T3'
      have HTk := hide T3k
      clear B3 Z3 P0 P1 T3 T3' T3k F3 A0 A1 AT HBk HZk c0 HH HC
      have HOw : Hid (OwnR w3.heap.size w3.heap.size w3 w3 none 0 []) := OwnR.nil (Below.refl _ _) (Nat.le_refl _) (Nat.le_refl _)
      go_wp2_with (first
        | (go_at_call 11; refine HO.out.mono ?_; rintro e w4 ⟨rfl, rfl⟩)
        | (at_builtin; refine HOw.out.append ⟨0, 4⟩ _ rfl (by simp) rfl (.tmp 57) (.tmp 59) rfl 0 rfl rfl rfl ?_; intro q5 c5 w5 O5; obtain ⟨d5, f5, l6, s6, HF⟩ := start_mid HP0.out HP1.out HT3.out HTk.out HB3.out HZ3.out O5; clear O5 d0 d3))
      refine bodyPost_ret (v := .tuple #[PV (psE (G + 2) q5 c5), .bool true]) ?_ rfl ⟨q5, c5, rfl, HF.out.2.1, HF.out.2.2.1, HF.out.2.2.2.1, HF.out.2.2.2.2⟩
      exact resA Try.results7 rfl rfl HF.out.1
end Go.Proofs.Ytikpjlbchnpmmaa
