/- AcksKeeps: the law's walk. -/
import Derived.Test.YtikpjlbchnpmmaaAKs
namespace Go.Proofs.Ytikpjlbchnpmmaa
open Go.RowKit
attribute [local go_sem ↓] ldA_eq stA_eq stP_eq stL_eq ldR_eq stR_eq
attribute [local go_sem] zero_PC zero_LC zero_RC
variable {w w' wr : World} {g gt gu gl : Nat} {F U : Nat → Int}

theorem meas {n k : Nat} (h : k < n) : n - (intOf (.int .i64 ((k + 1 : Nat) : Int))).toNat < n - (intOf (.int .i64 (k : Int))).toNat := by simp [intOf]; omega
/-- the inner loop: at the one peer, at the other, at its end -/
def InRel (w : World) (gt gu gl gx : Nat) (H F : Nat → Int) (e : Rn) (p : Value) (wx : World) : Prop :=
  ∃ U : Nat → Int, (p = .int .i64 0 ∧ KX w wx gt gu gl H U (F 0) (F 2) gx e) ∨ (p = .int .i64 2 ∧ KX w wx gt gu gl H U (H 0) (F 2) gx e) ∨ (p = .int .i64 4 ∧ KX w wx gt gu gl H U (H 0) (H 2) gx e)
theorem hp_facts {F H : Nat → Int} {lo hi E : Int} (h : heardF 3 1 F lo hi = H ∧ heardE 3 1 lo hi = E) (p : Int) (hp : p = 0 ∨ p = 2) :
    (E = 0 → lo = p → H p.toNat = max (F p.toNat) hi) ∧ (E = 0 → lo ≠ p → H p.toNat = F p.toNat) ∧ (E ≠ 0 → H p.toNat = F p.toNat) := by
  obtain ⟨rfl, rfl⟩ := h
  refine ⟨fun h0 e => ?_, fun h0 e => ?_, fun h0 => ?_⟩
  · subst e; unfold heardF; rw [if_pos h0]; unfold fset; rw [if_pos rfl]
  · obtain ⟨hl, -⟩ := (heardE3 lo hi).1 h0
    unfold heardF; rw [if_pos h0]; unfold fset; rw [if_neg (by omega)]
  · unfold heardF; rw [if_neg h0]
set_option maxRecDepth 100000 in
set_option maxHeartbeats 8000000 in
theorem keeps_any (ao : Option Addr) (n c : Nat) (L : List Rn) (rs : Int) (bo : Option Addr) (m c' : Nat) (R : List Rn) (w : World) (hL : RSrc w ao n c L) (hR : RSrc w bo m c' R) :
    Calls Try.prog 4 #[.slice ao n c, .int .i64 rs, .slice bo m c'] w fun e w' => e = .returned (.bool true) ∧ Below w.heap.size w w' := by
  have HL := hide hL
  have HR := hide hR
  have HN : Hid (n ≤ 8796093022207) := hL.big
  clear hL hR
  go_enter Try.func4, Try.ntmps4
  go_wp2_with fail
  refine (start_any w).mono ?_
  rintro e w1 ⟨q, cq, rfl, T0, Tk, -, b1⟩
  have T1 : Tb w1 (w.heap.size + 3) 3 1 (fun _ => 0) := Tk 1 (by omega) (by omega)
  have T2 : Tb w1 (w.heap.size + 4) 3 1 (fun _ => 0) := Tk 2 (by omega) (by omega)
  obtain ⟨n1, hn1⟩ : ∃ n1, w1.heap.size = n1 := ⟨_, rfl⟩
  obtain ⟨w2, hst, P2, b2, z2⟩ := madeA w1 (psE (w.heap.size + 2) q cq) n1 hn1
  have HB2 := hide (b1.trans (b2.mono b1.size))
  have c4 : w2.cell? ⟨n1, 4, none⟩ = some (ptr (w.heap.size + 3)) := P2.c0 1 (by omega)
  have c8 : w2.cell? ⟨n1, 8, none⟩ = some (ptr (w.heap.size + 4)) := P2.c0 2 (by omega)
  have HT1 := hide (T1.below b2)
  have HT2 := hide (T2.below b2)
  obtain ⟨gt, hgt⟩ : ∃ gt, w.heap.size + 3 = gt := ⟨_, rfl⟩
  obtain ⟨gu, hgu⟩ : ∃ gu, w.heap.size + 4 = gu := ⟨_, rfl⟩
  have HG : Hid (w.heap.size + 3 = gt ∧ w.heap.size + 4 = gu) := ⟨hgt, hgu⟩
  rw [hgt] at HT1 c4
  rw [hgu] at HT2 c8
  clear T0 Tk T1 T2 P2 b1 b2 z2 hgt hgu
  go_wp2_with fail
  go_quiet (fail)
  have hb3 : Below w2.heap.size w2 (w2.drewN nq) := below_drewN _ _
  have HT1' := hide (HT1.out.below hb3)
  have HT2' := hide (HT2.out.below hb3)
  have HB3 := hide (HB2.out.trans (hb3.mono HB2.out.size))
  clear hb3 HT1 HT2 HB2 c4 c8 hst
  generalize w2.drewN nq = w3 at *
  have s4 := run_stL (c := 0) (d := 0) (lbx_new w3 0 0)
  obtain ⟨gl, hgl⟩ : ∃ gl, w3.heap.size = gl := ⟨_, rfl⟩
  obtain ⟨w4, hw4⟩ : ∃ w4, (w3.alloc (.cells (LC 0 0) 37)).setRow w3.heap.size (LC 0 0) = w4 := ⟨_, rfl⟩
  have HK : Hid (KS w w4 gt gu gl (fun _ => 0) (fun _ => 0) 0 0) := by
    have hb : Below w3.heap.size w3 w4 := by rw [← hw4]; exact below_setRow (below_new _ _) (Nat.le_refl _)
    have l1 := HT1'.out.lt
    have l2 := HT2'.out.lt
    have g1 := HG.out
    refine ⟨HT1'.out.below hb, HT2'.out.below hb, ?_, HB3.out.trans (hb.mono HB3.out.size), by omega, by omega, by omega, by omega, by omega, by have := HB3.out.size; omega⟩
    rw [← hw4, ← hgl]; exact (lbx_new w3 0 0).setRow
  rw [hw4] at s4
  rw [hgl] at s4
  clear HT1' HT2' HB3 HG hw4
  go_wp2_with fail
  go_loopw [12] (fun i wr => ∃ k : Nat, k ≤ n ∧ i = .int .i64 k ∧ ∃ F U : Nat → Int, Hid (KS w wr gt gu gl F U (F 0) (F 2)) ∧ Hid (Bd F)) (fun i _ => n - (intOf i).toNat)
  case atStart => exact ⟨0, Nat.zero_le _, rfl, _, _, HK, bd_zero⟩
  case round =>
    clear HK
    obtain ⟨k, hk, rfl, F, U, HK, HD⟩ := hrel
    by_cases hlt : k < n
    · have HK1 : Hid (wrap64 ((k : Int) + 1) = ((k + 1 : Nat) : Int)) := by show _ = _; have := HN.out; rw [w64 (by omega) (by omega)]; rfl
      have HLT := hide hlt
      go_upto_if 43 with fail
      go_cut [12] from 35 to 150 (fun s wx => s = .int .i64 k ∧ ∃ F1 : Nat → Int, Hid (KS w wx gt gu gl F1 U (F1 0) (F1 2)) ∧ Hid (Bd F1))
      case first =>
        by_cases hr : (k : Int) = rs
        · go_wp2_with fail
          refine (reset_any wr HK.out.t).mono ?_
          rintro e w5 ⟨rfl, T5, F5⟩
          have HK5 := hide (HK.out.onT T5 F5)
          have s5 := run_stL (c := 0) (d := 0) HK5.out.l
          have HK6 := hide (HK5.out.onL (HK5.out.l.setRow (c := 0) (d := 0)) (Fr.setRow _ _ _))
          clear T5 F5
          go_wp2_with fail
          go_meet
          exact ⟨by rw [hr], _, HK6, bd_zero⟩
        · go_wp2_with fail
          go_meet
          exact ⟨rfl, _, HK, HD⟩
      case rest =>
        obtain ⟨rfl, F1, HK2, HD2⟩ := hcut
        obtain ⟨ad, rfl, A0⟩ := (HL.out.below HK2.out.bel).at k hlt
        obtain ⟨e, He⟩ : ∃ e, L.getD k rn0 = e := ⟨_, rfl⟩
        rw [He] at A0
        have hld := run_ldR A0
        obtain ⟨gx, hgx⟩ : ∃ gx, wc.heap.size = gx := ⟨_, rfl⟩
        obtain ⟨wk, hst, X1, B1, Z1⟩ := made wc e gx hgx
        have HX := hide (HK2.out.box (by rw [hgx]; exact X1) B1)
        rw [hgx] at HX
        have d0 := HX.out.d0
        have d1 := HX.out.d1
        clear A0 X1 B1 Z1 He HK HD HK2
        go_wp2_with fail
        refine (heard_any wk HX.out.k.t (by omega) e.lo e.hi).mono ?_
        rintro e' w5 ⟨rfl, T5, F5⟩
        have HX5 := hide (HX.out.onT T5 F5)
        obtain ⟨H, hH⟩ : ∃ H, heardF 3 1 F1 e.lo e.hi = H := ⟨_, rfl⟩
        obtain ⟨E, hE⟩ : ∃ E, heardE 3 1 e.lo e.hi = E := ⟨_, rfl⟩
        have HH : Hid (heardF 3 1 F1 e.lo e.hi = H ∧ heardE 3 1 e.lo e.hi = E) := ⟨hH, hE⟩
        rw [hH] at HX5
        rw [hE]
        clear T5 F5 hH hE HX d0 d1 hst hld hgx
        go_upto_if 60 with fail
        go_cut [] from 35 to 150 (fun wx => ∃ U1 : Nat → Int, Hid (KX w wx gt gu gl H U1 (F1 0) (F1 2) gx e))
        case first =>
          by_cases hm : k < m
          · obtain ⟨bd, rfl, A0⟩ := (HR.out.below HX5.out.k.bel).at k hm
            obtain ⟨bb, oo, rfl⟩ := (HR.out.below HX5.out.k.bel).spot (by omega)
            obtain ⟨r0, r1⟩ := (HR.out.below HX5.out.k.bel).nums k hm
            go_wp2_with fail
            have HC : Hid (∀ nq, Calls Try.prog 10 #[ptr gu, .int .i64 (R.getD k rn0).lo, .int .i64 (R.getD k rn0).hi] (w5.drewN nq) fun e w' => ∃ E U1, e = .returned (.int .i64 E) ∧ Tb w' gu 3 1 U1 ∧ Fr w5 w' gu) := fun nq => by
              refine (heard_any (w5.drewN nq) (HX5.out.k.u.below (below_drewN _ _)) (by omega) (R.getD k rn0).lo (R.getD k rn0).hi).mono ?_
              rintro e' w6 ⟨rfl, T6, F6⟩
              exact ⟨_, _, rfl, T6, (Fr.drew w5 nq gu).trans F6⟩
            clear A0
            go_region_with (go_at_call 10; refine (HC.out 1).mono ?_; rintro e' w6 ⟨E6, U6, rfl, T6, F6⟩)
            all_goals (have HX6 := hide (HX5.out.onU T6 F6); go_wp2_with fail; go_meet; exact ⟨_, HX6⟩)
          · go_wp2_with fail
            go_meet
            exact ⟨_, HX5⟩
        case rest =>
          obtain ⟨U1, HX6⟩ := hcut
          have d0 := HX6.out.d0
          have d1 := HX6.out.d1
          clear HX5
          obtain ⟨lo, hlo⟩ : ∃ lo, e.lo = lo := ⟨_, rfl⟩
          obtain ⟨hi, hhi⟩ : ∃ hi, e.hi = hi := ⟨_, rfl⟩
          rw [hlo] at d0 HH
          rw [hhi] at d1 HH
          have HLH : Hid (e.lo = lo ∧ e.hi = hi) := ⟨hlo, hhi⟩
          clear hlo hhi
          have HE : Hid (E = 0 ↔ (lo = 0 ∨ lo = 2) ∧ 0 ≤ hi ∧ hi ≤ 4611686018427387904) := by show _ ↔ _; rw [← HH.out.2]; exact heardE3 lo hi
          go_upto_region 16 with fail
          go_cut [15] from 35 to 150 (fun s wx => ∃ gd : Bool, s = .bool gd ∧ GB gd (E = 0) ∧ Hid (KX w wx gt gu gl H U1 (F1 0) (F1 2) gx e))
          case first =>
            by_cases p0 : lo = 0
            · by_cases k0 : hi < 0
              · have HG : Hid (GB false (E = 0)) := by show _ ↔ _; rw [HE.out]; constructor <;> intro x <;> (first | omega | simp at x)
                go_wp2_with fail
                go_meet
                exact ⟨_, rfl, HG.out, HX6⟩
              · by_cases k1 : 4611686018427387904 < hi
                · have HG : Hid (GB false (E = 0)) := by show _ ↔ _; rw [HE.out]; constructor <;> intro x <;> (first | omega | simp at x)
                  go_wp2_with fail
                  go_meet
                  refine ⟨_, rfl, ?_, HX6⟩
                  first | exact HG.out | (rw [decide_eq_false (by omega)]; exact HG.out)
                · have HG : Hid (GB true (E = 0)) := by show _ ↔ _; rw [HE.out]; constructor <;> intro x <;> (first | omega | rfl)
                  go_wp2_with fail
                  go_meet
                  refine ⟨_, rfl, ?_, HX6⟩
                  first | exact HG.out | (rw [decide_eq_false (by omega)]; exact HG.out)
            · by_cases p2 : lo = 2
              · by_cases k0 : hi < 0
                · have HG : Hid (GB false (E = 0)) := by show _ ↔ _; rw [HE.out]; constructor <;> intro x <;> (first | omega | simp at x)
                  go_wp2_with fail
                  go_meet
                  refine ⟨_, rfl, ?_, HX6⟩
                  first | exact HG.out | (rw [decide_eq_false (by omega)]; exact HG.out)
                · by_cases k1 : 4611686018427387904 < hi
                  · have HG : Hid (GB false (E = 0)) := by show _ ↔ _; rw [HE.out]; constructor <;> intro x <;> (first | omega | simp at x)
                    go_wp2_with fail
                    go_meet
                    refine ⟨_, rfl, ?_, HX6⟩
                    first | exact HG.out | (rw [decide_eq_false (by omega)]; exact HG.out)
                  · have HG : Hid (GB true (E = 0)) := by show _ ↔ _; rw [HE.out]; constructor <;> intro x <;> (first | omega | rfl)
                    go_wp2_with fail
                    go_meet
                    refine ⟨_, rfl, ?_, HX6⟩
                    first | exact HG.out | (rw [decide_eq_false (by omega)]; exact HG.out)
              · have HG : Hid (GB false (E = 0)) := by show _ ↔ _; rw [HE.out]; constructor <;> intro x <;> (first | omega | simp at x)
                go_wp2_with fail
                go_meet
                exact ⟨_, rfl, HG.out, HX6⟩
          case rest =>
            obtain ⟨gd, rfl, HG0, HX7⟩ := hcut
            have HG := hide HG0
            clear HG0 d0 d1 HX6
            have HDH : Hid (Bd H) := by rw [← HH.out.1]; exact bd_heard HD2.out lo hi
            have hE : (if gd = true then (0 : Int) else E) = E := by cases gd; rfl; exact (HG.out.1 rfl).symm
            have HF := hide (hp_facts HH.out)
            cases gd with
            | false =>
              clear hE
              go_upto_if 94 with fail
              go_cut [14] from 35 to 150 (fun s wx => s = .int .i64 E ∧ Hid (KX w wx gt gu gl H U1 (F1 0) (F1 2) gx e))
              case first =>
                have hE0 : ¬ (E = 0) := fun x => by have := HG.out.2 x; cases this
                go_wp2_with fail
                go_meet
                exact ⟨rfl, HX7⟩
              case rest =>
                obtain ⟨rfl, HX8⟩ := hcut
                clear HX7
                have HX7 := HX8
                clear HX8
                go_wp2_with fail
                go_loopw [16] (fun p wx => InRel w gt gu gl gx H F1 e p wx) (fun i _ => 4 - (intOf i).toNat)
                case atStart => exact ⟨_, Or.inl ⟨rfl, HX7.out⟩⟩
                case round =>
                  clear HX7
                  obtain ⟨U2, ⟨rfl, HX0⟩ | ⟨rfl, HX0⟩ | ⟨rfl, HX0⟩⟩ := hrel
                  all_goals (have HX := hide HX0; clear HX0)
                  · have HO := hide (of_any wr HX.out.k.t (by omega) 0)
                    rw [show ofV 3 1 H 0 = H 0 from rfl, show peerE 3 1 0 = 0 from by decide] at HO
                    have d0 := HX.out.d0
                    have d1 := HX.out.d1
                    rw [HLH.out.1] at d0
                    rw [HLH.out.2] at d1
                    have l0 := HX.out.k.l.c0
                    have z0 := HX.out.k.l.fz 0
                    obtain ⟨N, hN⟩ : ∃ N, H 0 = N := ⟨_, rfl⟩
                    obtain ⟨M, hM⟩ : ∃ M, F1 0 = M := ⟨_, rfl⟩
                    rw [hN] at HO
                    rw [hM] at l0
                    have hf := HF.out 0 (Or.inl rfl)
                    simp only [show (0 : Int).toNat = 0 from rfl] at hf
                    rw [hN, hM] at hf
                    clear hM
                    have e1 : N = M := hf.2.2 (fun x => by have := HG.out.2 x; cases this)
                    rw [e1] at HO hN
                    clear hf e1
                    have HS : Hid (KX w (wr.setCell ⟨gl, 0, none⟩ (.int .i64 M)) gt gu gl H U2 (H 0) (F1 2) gx e) := by
                      have := HX.out.onL (HX.out.k.l.set0 M) (Fr.setCell _ _ _ _)
                      rw [hN]
                      exact this
                    clear hN HX
                    go_wp2_with (go_at_call 11; refine HO.out.mono ?_; rintro e' w8 ⟨rfl, rfl⟩)
                    go_roundw
                    case rel => exact ⟨_, Or.inr (Or.inl ⟨rfl, HS.out⟩)⟩
                    case measure => simp [intOf]
                  · have HO := hide (of_any wr HX.out.k.t (by omega) 2)
                    rw [show ofV 3 1 H 2 = H 2 from rfl, show peerE 3 1 2 = 0 from by decide] at HO
                    have d0 := HX.out.d0
                    have d1 := HX.out.d1
                    rw [HLH.out.1] at d0
                    rw [HLH.out.2] at d1
                    have l2 := HX.out.k.l.c2
                    have z2 := HX.out.k.l.fz 2
                    obtain ⟨N, hN⟩ : ∃ N, H 2 = N := ⟨_, rfl⟩
                    obtain ⟨M, hM⟩ : ∃ M, F1 2 = M := ⟨_, rfl⟩
                    rw [hN] at HO
                    rw [hM] at l2
                    have hf := HF.out 2 (Or.inr rfl)
                    simp only [show (2 : Int).toNat = 2 from rfl] at hf
                    rw [hN, hM] at hf
                    clear hM
                    have e1 : N = M := hf.2.2 (fun x => by have := HG.out.2 x; cases this)
                    rw [e1] at HO hN
                    clear hf e1
                    have HS : Hid (KX w (wr.setCell ⟨gl, 2, none⟩ (.int .i64 M)) gt gu gl H U2 (H 0) (H 2) gx e) := by
                      have := HX.out.onL (HX.out.k.l.set2 M) (Fr.setCell _ _ _ _)
                      rw [hN]
                      exact this
                    clear hN HX
                    go_wp2_with (go_at_call 11; refine HO.out.mono ?_; rintro e' w8 ⟨rfl, rfl⟩)
                    go_roundw
                    case rel => exact ⟨_, Or.inr (Or.inr ⟨rfl, HS.out⟩)⟩
                    case measure => simp [intOf]
                  · have HKN := HX.out.k
                    have HKN := hide HKN
                    go_wp2_with fail
                    go_roundw
                    case rel => exact ⟨k + 1, HLT.out, by rw [HK1.out], H, U2, HKN, HDH⟩
                    case measure => rw [HK1.out]; exact meas HLT.out
            | true =>
              clear hE
              go_upto_if 94 with fail
              go_cut [14] from 35 to 150 (fun s wx => s = .int .i64 E ∧ Hid (KX w wx gt gu gl H U1 (F1 0) (F1 2) gx e))
              case first =>
                have hE0 : E = 0 := HG.out.1 rfl
                subst hE0
                go_wp2_with fail
                go_meet
                exact ⟨rfl, HX7⟩
              case rest =>
                obtain ⟨rfl, HX8⟩ := hcut
                clear HX7
                have HX7 := HX8
                clear HX8
                go_wp2_with fail
                go_loopw [16] (fun p wx => InRel w gt gu gl gx H F1 e p wx) (fun i _ => 4 - (intOf i).toNat)
                case atStart => exact ⟨_, Or.inl ⟨rfl, HX7.out⟩⟩
                case round =>
                  clear HX7
                  obtain ⟨U2, ⟨rfl, HX0⟩ | ⟨rfl, HX0⟩ | ⟨rfl, HX0⟩⟩ := hrel
                  all_goals (have HX := hide HX0; clear HX0)
                  · have HO := hide (of_any wr HX.out.k.t (by omega) 0)
                    rw [show ofV 3 1 H 0 = H 0 from rfl, show peerE 3 1 0 = 0 from by decide] at HO
                    have d0 := HX.out.d0
                    have d1 := HX.out.d1
                    rw [HLH.out.1] at d0
                    rw [HLH.out.2] at d1
                    have l0 := HX.out.k.l.c0
                    have z0 := HX.out.k.l.fz 0
                    obtain ⟨N, hN⟩ : ∃ N, H 0 = N := ⟨_, rfl⟩
                    obtain ⟨M, hM⟩ : ∃ M, F1 0 = M := ⟨_, rfl⟩
                    rw [hN] at HO
                    rw [hM] at l0
                    have hf := HF.out 0 (Or.inl rfl)
                    simp only [show (0 : Int).toNat = 0 from rfl] at hf
                    rw [hN, hM] at hf
                    clear hM
                    by_cases hl : lo = 0
                    · have hmx : N = max M hi := hf.1 (HG.out.1 rfl) hl
                      clear hf
                      by_cases hc : hi ≤ M
                      · have e1 : N = M := by omega
                        rw [e1] at HO hN
                        clear hmx e1
                        have HS : Hid (KX w (wr.setCell ⟨gl, 0, none⟩ (.int .i64 M)) gt gu gl H U2 (H 0) (F1 2) gx e) := by
                          have := HX.out.onL (HX.out.k.l.set0 M) (Fr.setCell _ _ _ _)
                          rw [hN]
                          exact this
                        clear hN HX
                        go_wp2_with (go_at_call 11; refine HO.out.mono ?_; rintro e' w8 ⟨rfl, rfl⟩)
                        go_roundw
                        case rel => exact ⟨_, Or.inr (Or.inl ⟨rfl, HS.out⟩)⟩
                        case measure => simp [intOf]
                      · have e1 : N = hi := by omega
                        have e2 : ¬ (hi = M) := by omega
                        have e3 : ¬ (hi < M) := by omega
                        rw [e1] at HO hN
                        clear hmx e1
                        have HS : Hid (KX w (wr.setCell ⟨gl, 0, none⟩ (.int .i64 hi)) gt gu gl H U2 (H 0) (F1 2) gx e) := by
                          have := HX.out.onL (HX.out.k.l.set0 hi) (Fr.setCell _ _ _ _)
                          rw [hN]
                          exact this
                        clear hN HX
                        go_wp2_with (go_at_call 11; refine HO.out.mono ?_; rintro e' w8 ⟨rfl, rfl⟩)
                        go_roundw
                        case rel => exact ⟨_, Or.inr (Or.inl ⟨rfl, HS.out⟩)⟩
                        case measure => simp [intOf]
                    · have e1 : N = M := hf.2.1 (HG.out.1 rfl) hl
                      rw [e1] at HO hN
                      clear hf e1
                      have HS : Hid (KX w (wr.setCell ⟨gl, 0, none⟩ (.int .i64 M)) gt gu gl H U2 (H 0) (F1 2) gx e) := by
                        have := HX.out.onL (HX.out.k.l.set0 M) (Fr.setCell _ _ _ _)
                        rw [hN]
                        exact this
                      clear hN HX
                      go_wp2_with (go_at_call 11; refine HO.out.mono ?_; rintro e' w8 ⟨rfl, rfl⟩)
                      go_roundw
                      case rel => exact ⟨_, Or.inr (Or.inl ⟨rfl, HS.out⟩)⟩
                      case measure => simp [intOf]
                  · have HO := hide (of_any wr HX.out.k.t (by omega) 2)
                    rw [show ofV 3 1 H 2 = H 2 from rfl, show peerE 3 1 2 = 0 from by decide] at HO
                    have d0 := HX.out.d0
                    have d1 := HX.out.d1
                    rw [HLH.out.1] at d0
                    rw [HLH.out.2] at d1
                    have l2 := HX.out.k.l.c2
                    have z2 := HX.out.k.l.fz 2
                    obtain ⟨N, hN⟩ : ∃ N, H 2 = N := ⟨_, rfl⟩
                    obtain ⟨M, hM⟩ : ∃ M, F1 2 = M := ⟨_, rfl⟩
                    rw [hN] at HO
                    rw [hM] at l2
                    have hf := HF.out 2 (Or.inr rfl)
                    simp only [show (2 : Int).toNat = 2 from rfl] at hf
                    rw [hN, hM] at hf
                    clear hM
                    by_cases hl : lo = 2
                    · have hmx : N = max M hi := hf.1 (HG.out.1 rfl) hl
                      clear hf
                      by_cases hc : hi ≤ M
                      · have e1 : N = M := by omega
                        rw [e1] at HO hN
                        clear hmx e1
                        have HS : Hid (KX w (wr.setCell ⟨gl, 2, none⟩ (.int .i64 M)) gt gu gl H U2 (H 0) (H 2) gx e) := by
                          have := HX.out.onL (HX.out.k.l.set2 M) (Fr.setCell _ _ _ _)
                          rw [hN]
                          exact this
                        clear hN HX
                        go_wp2_with (go_at_call 11; refine HO.out.mono ?_; rintro e' w8 ⟨rfl, rfl⟩)
                        go_roundw
                        case rel => exact ⟨_, Or.inr (Or.inr ⟨rfl, HS.out⟩)⟩
                        case measure => simp [intOf]
                      · have e1 : N = hi := by omega
                        have e2 : ¬ (hi = M) := by omega
                        have e3 : ¬ (hi < M) := by omega
                        rw [e1] at HO hN
                        clear hmx e1
                        have HS : Hid (KX w (wr.setCell ⟨gl, 2, none⟩ (.int .i64 hi)) gt gu gl H U2 (H 0) (H 2) gx e) := by
                          have := HX.out.onL (HX.out.k.l.set2 hi) (Fr.setCell _ _ _ _)
                          rw [hN]
                          exact this
                        clear hN HX
                        go_wp2_with (go_at_call 11; refine HO.out.mono ?_; rintro e' w8 ⟨rfl, rfl⟩)
                        go_roundw
                        case rel => exact ⟨_, Or.inr (Or.inr ⟨rfl, HS.out⟩)⟩
                        case measure => simp [intOf]
                    · have e1 : N = M := hf.2.1 (HG.out.1 rfl) hl
                      rw [e1] at HO hN
                      clear hf e1
                      have HS : Hid (KX w (wr.setCell ⟨gl, 2, none⟩ (.int .i64 M)) gt gu gl H U2 (H 0) (H 2) gx e) := by
                        have := HX.out.onL (HX.out.k.l.set2 M) (Fr.setCell _ _ _ _)
                        rw [hN]
                        exact this
                      clear hN HX
                      go_wp2_with (go_at_call 11; refine HO.out.mono ?_; rintro e' w8 ⟨rfl, rfl⟩)
                      go_roundw
                      case rel => exact ⟨_, Or.inr (Or.inr ⟨rfl, HS.out⟩)⟩
                      case measure => simp [intOf]
                  · have HKN := HX.out.k
                    have HKN := hide HKN
                    go_wp2_with fail
                    go_roundw
                    case rel => exact ⟨k + 1, HLT.out, by rw [HK1.out], H, U2, HKN, HDH⟩
                    case measure => rw [HK1.out]; exact meas HLT.out
    · have HT := hide HK.out.t
      have HBl := hide HK.out.bel
      go_wp2_with fail
      refine (all_any wr 3 HT.out (by omega)).mono ?_
      rintro e w5 ⟨ro, cr, rfl, o5, b5⟩
      have HK5 := hide (HK.out.below b5)
      have HS5 := hide (NSrc.of_own o5 (allL_len 3 F))
      have HB5 := hide HK5.out.bel
      clear o5 b5 HK HT HBl
      have HLe := hide (least_any w5 3 HK5.out.t (by omega) (by omega))
      have hls : lsf 1 F 3 = min (F 0) (F 2) := by
        have := HD.out
        obtain ⟨b0, b2, -⟩ := this
        show min (if ((1 : Nat) : Int) = 1 then min 4611686018427387904 (F 0) else _) (F 2) = _
        rw [if_pos (show ((1 : Nat) : Int) = 1 from rfl)]
        omega
      rw [hls] at HLe
      have l0 := HK5.out.l.c0
      have l2 := HK5.out.l.c2
      obtain ⟨x0, hx0⟩ : ∃ x0, F 0 = x0 := ⟨_, rfl⟩
      obtain ⟨x2, hx2⟩ : ∃ x2, F 2 = x2 := ⟨_, rfl⟩
      have HX : Hid (F 0 = x0 ∧ F 2 = x2) := ⟨hx0, hx2⟩
      rw [hx0, hx2] at HLe
      have HS5 : Hid (NSrc w5 ro 3 cr [x0, 0, x2]) := by
        have h1 : F 1 = 0 := HD.out.2.2
        rw [← hx0, ← hx2, ← h1]; exact HS5.out
      rw [hx0] at l0
      rw [hx2] at l2
      clear hls hx0 hx2
      go_wp2_with (first | (go_at_call 13; refine HLe.out.mono ?_; rintro e w6 ⟨rfl, rfl⟩))
      have hb7 := below_new w6 (.cells #[.int .i64 x0, .int .i64 0, .int .i64 x2] 3)
      refine (same_any ro 3 cr [x0, 0, x2] (some ⟨w6.heap.size, 0, none⟩) 3 3 [x0, 0, x2] _ (HS5.out.below hb7) (lit3 w6 x0 0 x2) (by omega)).mono ?_
      rintro e w7 ⟨rfl, b7⟩
      have hb8 := hb7.trans (b7.mono hb7.size)
      have HK7 := hide (HK5.out.below hb8)
      rw [decide_eq_true (rfl : [x0, 0, x2] = [x0, 0, x2])]
      clear l0 l2 hb7 hb8 b7 HS5 HK5 HB5
      have l0 := HK7.out.l.c0
      have l2 := HK7.out.l.c2
      rw [HX.out.1] at l0
      rw [HX.out.2] at l2
      have HB7 := hide HK7.out.bel
      go_wp2_with fail
      go_ret
      exact ⟨rfl, HB7.out⟩
end Go.Proofs.Ytikpjlbchnpmmaa
