/- The reference's sorted: its contract. -/
import Derived.Test.YtpolleieajgheaaDoorSMk
import Derived.Test.YtpolleieajgheaaDoorPu
import Derived.Deep.CutRange
import Derived.Deep.LoopGhost
namespace Go.Proofs.YtpolleieajgheaaDoor
open Go.RowKit
attribute [local go_sem ↓] ldM_eq mkM_eq
attribute [local go_sem] zero_MC cells_MV MC_size fold_MC

def leM (x y : Mk) : Bool := decide (x.pos ≤ y.pos)
theorem leM_trans (a b c : Mk) (h1 : leM a b = true) (h2 : leM b c = true) : leM a c = true := by
  simp [leM] at *; omega
theorem leM_total (a b : Mk) : (leM a b || leM b a) = true := by
  simp [leM]; omega
/-- the marks of L in order are handed back -/
def GivesS (w w' : World) (e : Ending) (n : Nat) (L : List Mk) : Prop := ∃ ap c R, e = .returned (.slice ap n c) ∧ MSrc w' ap n c R ∧ Below w.heap.size w w' ∧ R.Perm L ∧ Ris R
set_option maxRecDepth 100000 in
set_option maxHeartbeats 16000000 in
theorem sorted_any (ao : Option Addr) (k cap : Nat) (L : List Mk) (w : World) (hS : MSrc w ao k cap L) (hn : k ≤ 17179869184) :
    Calls Tryd.prog 28 #[.slice ao k cap] w fun x w' => GivesS w w' x k L := by
  have HS1 := hide hS
  clear hS
  go_enter Tryd.func28, Tryd.ntmps28
  go_wp2_with fail
  go_loopw [0, 4] (fun v i wl => ∃ (q : Nat) (ap : Option Addr) (c : Nat) (Lc : List Mk), 1 ≤ q ∧ q ≤ 68719476736 ∧ v = .slice ap k c ∧ i = .int .i64 q ∧ Hid (MSrc wl ap k c Lc ∧ Below w.heap.size w wl ∧ Lc.Perm L ∧ Chunked (fun x y => leM x y = true) q Lc)) (fun _ i _ => k - (intOf i).toNat)
  case atStart => exact ⟨1, ao, cap, L, Nat.le_refl _, by omega, rfl, rfl, HS1.out, Below.refl _ _, List.Perm.refl _, chunked_one _ _⟩
  case round =>
    obtain ⟨q, ap, c, Lc, hq, hq2, rfl, rfl, H⟩ := hrel
    have HLc : Hid (Lc.length = k) := H.out.1.1
    rename World => w2
    by_cases hlt2 : q < k
    · obtain ⟨w1, hmk, O1⟩ := madeM w2 k (by omega)
      have HO1 := hide O1
      clear O1
      go_wp2_with fail
      clear hmk
      go_loopg [5, 6] (k + 2 * q) (fun g v i w3 => ∃ (f t : Nat) (am : Option Addr) (cm : Nat) (M : List Mk), f ≤ k + 2 * q ∧ k + 2 * q - f ≤ g ∧ v = .slice am M.length cm ∧ i = .int .i64 f ∧ Hid (Pass leM Lc M k q f t ∧ OwnM w2.heap.size w2.heap.size w2 w3 am cm M))
      case atStart => exact ⟨0, 0, _, _, [], Nat.zero_le _, by omega, rfl, rfl, Pass.start _ _ _ _, HO1.out⟩
      case round =>
        obtain ⟨f, t, am, cm, M0, hf, hg, rfl, rfl, HP⟩ := hrel
        rename World => w3
        clear HO1
        by_cases hlt3 : f < k
        · have hm0 : M0.length = f := by rw [HP.out.1.hl]; omega
          obtain ⟨mid, HMid⟩ : ∃ mid, Hid (mid = min (f + q) k) := ⟨_, rfl⟩
          obtain ⟨en, HEn⟩ : ∃ en, Hid (en = min (mid + q) k) := ⟨_, rfl⟩
          have hmb : f ≤ mid ∧ mid ≤ k := by have := HMid.out; omega
          have heb : mid ≤ en ∧ en ≤ k := by have := HEn.out; omega
          go_upto_if 32 with fail
          go_cut [7] from 20 to 89 (fun s wx => s = .int .i64 (mid : Int) ∧ wx = w3)
          case first =>
            by_cases hA : k < f + q
            · have e : mid = k := by have := HMid.out; omega
              subst e
              go_wp2_with fail
              go_meet
              case rel => exact ⟨rfl, rfl⟩
            · have e : mid = f + q := by have := HMid.out; omega
              subst e
              go_wp2_with fail
              go_meet
              case rel => exact ⟨by go_num, rfl⟩
          case rest =>
            obtain ⟨rfl, rfl⟩ := hcut
            go_upto_if 39 with fail
            go_cut [8] from 20 to 89 (fun s wx => s = .int .i64 (en : Int) ∧ wx = wc)
            case first =>
              by_cases hA : k < mid + q
              · have e : en = k := by have := HEn.out; omega
                subst e
                go_wp2_with fail
                go_meet
                case rel => exact ⟨rfl, rfl⟩
              · have e : en = mid + q := by have := HEn.out; omega
                subst e
                go_wp2_with fail
                go_meet
                case rel => exact ⟨by go_num, rfl⟩
            case rest =>
              obtain ⟨rfl, rfl⟩ := hcut
              rename World => w3
              obtain ⟨hmb1, hmb2⟩ := hmb
              obtain ⟨heb1, heb2⟩ := heb
              obtain ⟨T, HT⟩ : ∃ T, Hid (M0 ++ mrg leM Lc f mid mid en = T) := ⟨_, rfl⟩
              have HPN := hide (HP.out.1.step leM_trans leM_total HLc.out hlt3 H.out.2.2.2 HMid.out HEn.out)
              rw [HT.out] at HPN
              have hTl : T.length = en := by rw [← HT.out, List.length_append, hm0, mrg_length leM Lc f mid en k HLc.out hmb1 heb1 heb2]; omega
              go_wp2_with fail
              go_loopg [5, 9, 10] (mid + en) (fun g v i j w4 => ∃ (a b : Nat) (am : Option Addr) (cm : Nat) (M : List Mk), a ≤ mid ∧ b ≤ en ∧ (mid - a) + (en - b) ≤ g ∧ v = .slice am M.length cm ∧ i = .int .i64 a ∧ j = .int .i64 b ∧ Hid (M ++ mrg leM Lc a mid b en = T ∧ OwnM w2.heap.size w2.heap.size w2 w4 am cm M))
              case atStart => exact ⟨f, mid, am, cm, M0, hmb1, heb1, by omega, rfl, rfl, rfl, HT.out, HP.out.2⟩
              case round =>
                clear HT HP
                obtain ⟨a, b, am, cm, M, ha, hb, hg2, rfl, rfl, rfl, HM⟩ := hrel
                rename World => w4
                by_cases hi : a < mid
                · have hak : a < k := by omega
                  obtain ⟨gl, rfl, A0⟩ := (H.out.1.below HM.out.2.below).at a (by omega)
                  obtain ⟨e, He⟩ : ∃ e, Hid (Lc.getD a mk0 = e) := ⟨_, rfl⟩
                  rw [He.out] at A0
                  have HA0 := hide A0
                  by_cases hj : b < en
                  · have hbk : b < k := by omega
                    obtain ⟨gl', hgl, A1⟩ := (H.out.1.below HM.out.2.below).at b (by omega)
                    cases hgl
                    obtain ⟨e1, He1⟩ : ∃ e1, Hid (Lc.getD b mk0 = e1) := ⟨_, rfl⟩
                    rw [He1.out] at A1
                    have HA1 := hide A1
                    have k0 := cell_regrown A0.c0
                    have k1 := cell_regrown A1.c0
                    clear A0 A1
                    have d1 : decide ((en : Int) ≤ (b : Int)) = false := decide_eq_false (by omega)
                    have d2 : decide ((a : Int) < (mid : Int)) = true := decide_eq_true (by omega)
                    by_cases hp : e.pos ≤ e1.pos
                    · have d3 : decide (e.pos ≤ e1.pos) = true := decide_eq_true hp
                      have HN : Hid (M ++ [e] ++ mrg leM Lc (a + 1) mid b en = T) := by show _ = _; have h := HM.out.1; rw [mrg_le leM Lc mk0 a mid b en hi (by rw [HLc.out]; omega) hj (by rw [HLc.out]; omega) (by rw [He.out, He1.out]; exact d3), He.out] at h; rw [List.append_assoc]; exact h
                      have hml : M.length < T.length := by rw [← HN.out]; simp
                      have HO := hide HM.out.2
                      go_wp2_with fail
                      refine wp_region_quiet_below (by kernel_rfl) (by kernel_rfl) ?_
                      repeat (with_reducible (refine wpQuiet_step ?_); intro K hK; go_simp; (try rw [if_neg (by unfold undef; simp)]); first | (with_reducible (refine hK _ ?_); clear hK K) | (apply Exists.intro; refine ⟨fun _ => ?_, hK _ ?_⟩; (fail); clear hK K))
                      with_reducible (refine wpQuiet_nil ?_)
                      intro w5 hw'
                      obtain ⟨⟨dq, osq⟩, hw''⟩ := hw'
                      have B5 : Below w4.heap.size w4 w5 := by rw [hw'']; exact below_regrown w4 dq osq
                      clear hw'' dq osq
                      have HO5 := hide (HO.out.later B5)
                      have l5 := run_ldM (HA0.out.on B5)
                      clear B5
                      go_wp2_with (at_builtin; refine HO5.out.append e _ rfl (by omega) rfl (.tmp 72) (.tmp 77) rfl M.length rfl rfl rfl ?_; intro g5 c5 w6 O6)
                      go_roundg ((mid - (a + 1)) + (en - (b)))
                      case measure => omega
                      case rel => exact ⟨a + 1, b, some ⟨g5, 0, none⟩, c5, M ++ [e], by omega, by omega, Nat.le_refl _, by simp, by go_num, by go_num, HN.out, O6⟩
                    · have d3 : decide (e.pos ≤ e1.pos) = false := decide_eq_false hp
                      have HN : Hid (M ++ [e1] ++ mrg leM Lc a mid (b + 1) en = T) := by show _ = _; have h := HM.out.1; rw [mrg_gt leM Lc mk0 a mid b en hi (by rw [HLc.out]; omega) hj (by rw [HLc.out]; omega) (by rw [He.out, He1.out]; exact d3), He1.out] at h; rw [List.append_assoc]; exact h
                      have hml : M.length < T.length := by rw [← HN.out]; simp
                      have HO := hide HM.out.2
                      go_wp2_with fail
                      refine wp_region_quiet_below (by kernel_rfl) (by kernel_rfl) ?_
                      repeat (with_reducible (refine wpQuiet_step ?_); intro K hK; go_simp; (try rw [if_neg (by unfold undef; simp)]); first | (with_reducible (refine hK _ ?_); clear hK K) | (apply Exists.intro; refine ⟨fun _ => ?_, hK _ ?_⟩; (fail); clear hK K))
                      with_reducible (refine wpQuiet_nil ?_)
                      intro w5 hw'
                      obtain ⟨⟨dq, osq⟩, hw''⟩ := hw'
                      have B5 : Below w4.heap.size w4 w5 := by rw [hw'']; exact below_regrown w4 dq osq
                      clear hw'' dq osq
                      have HO5 := hide (HO.out.later B5)
                      have l5 := run_ldM (HA1.out.on B5)
                      clear B5
                      go_wp2_with (at_builtin; refine HO5.out.append e1 _ rfl (by omega) rfl (.tmp 81) (.tmp 86) rfl M.length rfl rfl rfl ?_; intro g5 c5 w6 O6)
                      go_roundg ((mid - (a)) + (en - (b + 1)))
                      case measure => omega
                      case rel => exact ⟨a, b + 1, some ⟨g5, 0, none⟩, c5, M ++ [e1], by omega, by omega, Nat.le_refl _, by simp, by go_num, by go_num, HN.out, O6⟩
                  · have d1 : decide ((en : Int) ≤ (b : Int)) = true := decide_eq_true (by omega)
                    have HN : Hid (M ++ [e] ++ mrg leM Lc (a + 1) mid b en = T) := by show _ = _; have h := HM.out.1; rw [mrg_left leM Lc mk0 a mid b en hi (by rw [HLc.out]; omega) (by omega), He.out] at h; rw [List.append_assoc]; exact h
                    have hml : M.length < T.length := by rw [← HN.out]; simp
                    have HO := hide HM.out.2
                    clear A0
                    go_wp2_with fail
                    refine wp_region_quiet_below (by kernel_rfl) (by kernel_rfl) ?_
                    repeat (with_reducible (refine wpQuiet_step ?_); intro K hK; go_simp; (try rw [if_neg (by unfold undef; simp)]); first | (with_reducible (refine hK _ ?_); clear hK K) | (apply Exists.intro; refine ⟨fun _ => ?_, hK _ ?_⟩; (fail); clear hK K))
                    with_reducible (refine wpQuiet_nil ?_)
                    intro w5 hw'
                    obtain ⟨⟨dq, osq⟩, hw''⟩ := hw'
                    have B5 : Below w4.heap.size w4 w5 := by rw [hw'']; exact below_regrown w4 dq osq
                    clear hw'' dq osq
                    have HO5 := hide (HO.out.later B5)
                    have l5 := run_ldM (HA0.out.on B5)
                    clear B5
                    go_wp2_with (at_builtin; refine HO5.out.append e _ rfl (by omega) rfl (.tmp 72) (.tmp 77) rfl M.length rfl rfl rfl ?_; intro g5 c5 w6 O6)
                    go_roundg ((mid - (a + 1)) + (en - (b)))
                    case measure => omega
                    case rel => exact ⟨a + 1, b, some ⟨g5, 0, none⟩, c5, M ++ [e], by omega, by omega, Nat.le_refl _, by simp, by go_num, by go_num, HN.out, O6⟩
                · by_cases hj : b < en
                  · have hbk : b < k := by omega
                    obtain ⟨gl, rfl, A1⟩ := (H.out.1.below HM.out.2.below).at b (by omega)
                    obtain ⟨e1, He1⟩ : ∃ e1, Hid (Lc.getD b mk0 = e1) := ⟨_, rfl⟩
                    rw [He1.out] at A1
                    have HA1 := hide A1
                    clear A1
                    have d1 : decide ((en : Int) ≤ (b : Int)) = false := decide_eq_false (by omega)
                    have d2 : decide ((a : Int) < (mid : Int)) = false := decide_eq_false (by omega)
                    have HN : Hid (M ++ [e1] ++ mrg leM Lc a mid (b + 1) en = T) := by show _ = _; have h := HM.out.1; rw [mrg_right leM Lc mk0 a mid b en (by omega) hj (by rw [HLc.out]; omega), He1.out] at h; rw [List.append_assoc]; exact h
                    have hml : M.length < T.length := by rw [← HN.out]; simp
                    have HO := hide HM.out.2
                    go_wp2_with fail
                    refine wp_region_quiet_below (by kernel_rfl) (by kernel_rfl) ?_
                    repeat (with_reducible (refine wpQuiet_step ?_); intro K hK; go_simp; (try rw [if_neg (by unfold undef; simp)]); first | (with_reducible (refine hK _ ?_); clear hK K) | (apply Exists.intro; refine ⟨fun _ => ?_, hK _ ?_⟩; (fail); clear hK K))
                    with_reducible (refine wpQuiet_nil ?_)
                    intro w5 hw'
                    obtain ⟨⟨dq, osq⟩, hw''⟩ := hw'
                    have B5 : Below w4.heap.size w4 w5 := by rw [hw'']; exact below_regrown w4 dq osq
                    clear hw'' dq osq
                    have HO5 := hide (HO.out.later B5)
                    have l5 := run_ldM (HA1.out.on B5)
                    clear B5
                    go_wp2_with (at_builtin; refine HO5.out.append e1 _ rfl (by omega) rfl (.tmp 81) (.tmp 86) rfl M.length rfl rfl rfl ?_; intro g5 c5 w6 O6)
                    go_roundg ((mid - (a)) + (en - (b + 1)))
                    case measure => omega
                    case rel => exact ⟨a, b + 1, some ⟨g5, 0, none⟩, c5, M ++ [e1], by omega, by omega, Nat.le_refl _, by simp, by go_num, by go_num, HN.out, O6⟩
                  · have HE : Hid (M = T) := by show _ = _; have := HM.out.1; rwa [mrg_none leM Lc a mid b en (by omega) (by omega), List.append_nil] at this
                    have HO := hide HM.out.2
                    rw [HE.out] at HO ⊢
                    go_wp2_with fail
                    go_roundg (k + 2 * q - (f + 2 * q))
                    case measure => omega
                    case rel => exact ⟨f + 2 * q, t + 1, am, cm, T, by omega, Nat.le_refl _, rfl, by go_num, HPN.out, HO.out⟩
        · obtain ⟨P1, P2, P3⟩ := HP.out.1.done HLc.out (by omega)
          obtain ⟨S2, F2⟩ := HP.out.2.src
          rw [P3] at S2
          rw [P3]
          have HN : Hid (MSrc w3 am k cm M0 ∧ Below w.heap.size w w3 ∧ M0.Perm L ∧ Chunked (fun x y => leM x y = true) (2 * q) M0) :=
            ⟨S2, H.out.2.1.trans (HP.out.2.below.mono H.out.2.1.size), P1.trans H.out.2.2.1, P2⟩
          clear P1 P2 P3 S2 F2
          go_wp2_with fail
          go_roundw
          case rel => exact ⟨2 * q, am, cm, M0, by omega, by omega, rfl, by go_num, HN⟩
          case measure => simp [intOf]; omega
    · have HR : Hid (Ris Lc) := (chunked_whole H.out.2.2.2 (by rw [HLc.out]; omega)).imp (fun h => of_decide_eq_true h)
      have HN : Hid (GivesS w w2 (.returned (.slice ap k c)) k L) := ⟨ap, c, Lc, rfl, H.out.1, H.out.2.1, H.out.2.2.1, HR.out⟩
      go_wp2_with fail
      go_ret
      exact HN.out
end Go.Proofs.YtpolleieajgheaaDoor
