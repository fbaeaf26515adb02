/- LSrt -/
import Derived.Test.YtalpnhfoaohhhaaGreatTj27
import Derived.Deep.CutRange
import Derived.Deep.LoopGhost
set_option maxRecDepth 100000
set_option maxHeartbeats 16000000
namespace Go.Proofs.YtalpnhfoaohhhaaGreat.K
open Go.RowKit
attribute [local go_sem ↓] ld28_eq st28_eq
attribute [local go_sem] zero_EC cells_EV EC_size
attribute [local go_sem] fold_EC
def mk22 (a b : Value) : Sem Value := Instr.makeSlice 22 a b
theorem mk22_eq (a b : Value) : Instr.makeSlice 22 a b = mk22 a b := rfl
attribute [local go_sem ↓] mk22_eq
theorem made0 (w : World) (n : Nat) (hn : n <= 3518437208883) : ∃ w' : World, (mk22 (.int .i64 0) (.int .i64 (n : Int))).run Tryz.prog w = .ok (.slice (some ⟨w.heap.size, 0, none⟩) 0 n) w' /\ OwnE w.heap.size w.heap.size w w' (some ⟨w.heap.size, 0, none⟩) n [] := by
 obtain ⟨i0, hi, hz0, hz1, hz2⟩ := info_parts info28
 obtain ⟨w', h1, h2, h3⟩ := run_make_own (P := Tryz.prog) w w.heap.size 22 36 i0 _ 4 Tryz.underlying22 hi hz0 hz1 .i64 .i64 n (by rw [hz2]; omega) (by unfold maxLen; omega) (Nat.le_refl _)
 exact ⟨w', h1, h2, (Below.refl _ _).grown h3 (Nat.le_refl _) (fun k hk => by cases hk), h3.size, Nat.le_refl _⟩
def InOrder (L R : List En) : Prop := R.Perm L /\ R.Pairwise (fun x y => leE x y = true)
def GivesS (w w' : World) (e : Ending) (L : List En) : Prop := ∃ R, InOrder L R /\ GivesE w w' e R
theorem ahead_of_le {x y : En} {p : Bool} (h : ahead y x = p) : leE x y = !p := by unfold leE; rw [h]
theorem sorted_any (ao : Option Addr) (n cap : Nat) (L : List En) (w : World) (hS : ESrc w ao n cap L) :
  Calls Tryz.prog 61 #[.slice ao n cap, .int .i64 0] w fun x w' => GivesS w w' x L := by
 have HS := hide hS
 have hn := hS.2.2.2.2
 have HL : Hid (L.length = n) := hS.1
 clear hS
 go_enter Tryz.func61, Tryz.ntmps61
 go_wp2_with fail
 go_loopw [5, 6] (fun v i wr => ∃ (k : Nat) (ap : Option Addr) (c : Nat), k <= n /\ v = .slice ap (L.take k).length c /\ i = .int .i64 k /\ Hid (OwnE w.heap.size w.heap.size w wr ap c (L.take k))) (fun _ i _ => n - (intOf i).toNat)
 case atStart => exact ⟨0, none, 0, Nat.zero_le _, rfl, rfl, OwnE.nil (Below.refl _ _) (Nat.le_refl _) (Nat.le_refl _)⟩
 case round =>
  obtain ⟨k, ap, c, hk, rfl, rfl, HO⟩ := hrel
  obtain ⟨acc, Hacc⟩ : ∃ acc, Hid (L.take k = acc) := ⟨_, rfl⟩
  have hal : acc.length = k := by rw [<- Hacc.out, List.length_take, HL.out]; omega
  rw [Hacc.out] at HO ⊢
  by_cases hlt : k < n
  ·obtain ⟨ad, rfl, A0⟩ := (HS.out.below HO.out.below).at k hlt
   have hld := run_ld28 A0
   obtain ⟨e, He⟩ : ∃ e, Hid (L.getD k en0 = e) := ⟨_, rfl⟩
   rw [He.out] at hld A0
   have HT := hide (take_snoc L k (by rw [HL.out]; exact hlt))
   rw [He.out, Hacc.out] at HT
   clear A0
   go_wp2_with (at_builtin; refine HO.out.append e _ rfl (by omega) rfl (.tmp 21) (.tmp 26) rfl acc.length rfl rfl rfl ?_; intro g4 c4 w4 O4 hk4)
   go_roundw
   case rel => exact ⟨k + 1, some ⟨g4, 0, none⟩, c4, by omega, by rw [HT.out]; simp [hal], by go_num, by rw [HT.out]; exact O4⟩
   case measure => simp [intOf]; omega
  ·obtain rfl : k = n := by omega
   obtain rfl : L = acc := by rw [<- Hacc.out, List.take_of_length_le (by rw [HL.out]; exact Nat.le_refl _)]
   obtain ⟨S1, F1⟩ := HO.out.src HS.out.2.2.2.1 (by omega)
   rw [HL.out] at S1
   have HS1 := hide S1
   have HF1 := hide F1
   have HB1 := hide HO.out.below
   rw [HL.out]
   clear S1 F1 HO
   go_wp2_with fail
   go_loopw [5, 8] (fun v i wl => ∃ (q : Nat) (ap : Option Addr) (c : Nat) (Lc : List En), 1 <= q /\ q <= 7036874417766 /\ v = .slice ap k c /\ i = .int .i64 q /\ Hid (ESrc wl ap k c Lc /\ Below w.heap.size w wl /\ (∀ ad, ap = some ad -> w.heap.size <= ad.block) /\ Lc.Perm L /\ Chunked (fun x y => leE x y = true) q Lc)) (fun _ i _ => k - (intOf i).toNat)
   case atStart => exact ⟨1, ap, c, L, Nat.le_refl _, by omega, rfl, rfl, HS1.out, HB1.out, HF1.out, List.Perm.refl _, chunked_one _ _⟩
   case round =>
    obtain ⟨q, ap, c, Lc, hq, hq2, rfl, rfl, H⟩ := hrel
    have HLc : Hid (Lc.length = k) := H.out.1.1
    by_cases hlt2 : q < k
    ·rename World => w2
     obtain ⟨w1, hmk, O1⟩ := made0 w2 k hn
     have HO1 := hide O1
     clear O1
     go_wp2_with fail
     clear hmk
     go_loopg [9, 10] (k + 2 * q) (fun g v i w3 => ∃ (f t : Nat) (am : Option Addr) (cm : Nat) (M : List En), f <= k + 2 * q /\ k + 2 * q - f <= g /\ v = .slice am M.length cm /\ i = .int .i64 f /\ Hid (Pass leE Lc M k q f t /\ OwnE w2.heap.size w2.heap.size w2 w3 am cm M))
     case atStart => exact ⟨0, 0, _, _, [], Nat.zero_le _, by omega, rfl, rfl, Pass.start _ _ _ _, HO1.out⟩
     case round =>
      obtain ⟨f, t, am, cm, M0, hf, hg, rfl, rfl, HP⟩ := hrel
      rename World => w3
      clear HO1
      by_cases hlt3 : f < k
      ·have hm0 : M0.length = f := by rw [HP.out.1.hl]; omega
       obtain ⟨mid, HMid⟩ : ∃ mid, Hid (mid = min (f + q) k) := ⟨_, rfl⟩
       obtain ⟨en, HEn⟩ : ∃ en, Hid (en = min (mid + q) k) := ⟨_, rfl⟩
       have hmb : f <= mid /\ mid <= k := by have := HMid.out; omega
       have heb : mid <= en /\ en <= k := by have := HEn.out; omega
       go_upto_if 49 with fail
       go_cut [11] from 37 to 106 (fun s wx => s = .int .i64 (mid : Int) /\ wx = w3)
       case first =>
        by_cases hA : k < f + q
        ·have e : mid = k := by have := HMid.out; omega
         subst e
         go_wp2_with fail
         go_meet
         case rel => exact ⟨rfl, rfl⟩
        ·have e : mid = f + q := by have := HMid.out; omega
         subst e
         go_wp2_with fail
         go_meet
         case rel => exact ⟨by go_num, rfl⟩
       case rest =>
        obtain ⟨rfl, rfl⟩ := hcut
        go_upto_if 56 with fail
        go_cut [12] from 37 to 106 (fun s wx => s = .int .i64 (en : Int) /\ wx = wc)
        case first =>
         by_cases hA : k < mid + q
         ·have e : en = k := by have := HEn.out; omega
          subst e
          go_wp2_with fail
          go_meet
          case rel => exact ⟨rfl, rfl⟩
         ·have e : en = mid + q := by have := HEn.out; omega
          subst e
          go_wp2_with fail
          go_meet
          case rel => exact ⟨by go_num, rfl⟩
        case rest =>
         obtain ⟨rfl, rfl⟩ := hcut
         rename World => w3
         obtain ⟨hmb1, hmb2⟩ := hmb
         obtain ⟨heb1, heb2⟩ := heb
         obtain ⟨T, HT⟩ : ∃ T, Hid (M0 ++ mrg leE Lc f mid mid en = T) := ⟨_, rfl⟩
         have HPN := hide (HP.out.1.step leE_trans leE_total HLc.out hlt3 H.out.2.2.2.2 HMid.out HEn.out)
         rw [HT.out] at HPN
         have hTl : T.length = en := by rw [<- HT.out, List.length_append, hm0, mrg_length leE Lc f mid en k HLc.out hmb1 heb1 heb2]; omega
         go_wp2_with fail
         go_loopg [9, 13, 14] (mid + en) (fun g v i j w4 => ∃ (a b : Nat) (am : Option Addr) (cm : Nat) (M : List En), a <= mid /\ b <= en /\ (mid - a) + (en - b) <= g /\ v = .slice am M.length cm /\ i = .int .i64 a /\ j = .int .i64 b /\ Hid (M ++ mrg leE Lc a mid b en = T /\ OwnE w2.heap.size w2.heap.size w2 w4 am cm M))
         case atStart => exact ⟨f, mid, am, cm, M0, hmb1, heb1, by omega, rfl, rfl, rfl, HT.out, HP.out.2⟩
         case round =>
          clear HT HP
          obtain ⟨a, b, am, cm, M, ha, hb, hg2, rfl, rfl, rfl, HM⟩ := hrel
          rename World => w4
          by_cases hi : a < mid
          ·have hak : a < k := by omega
           obtain ⟨ad, rfl, A0⟩ := (H.out.1.below HM.out.2.below).at a (by omega)
           obtain ⟨e, He⟩ : ∃ e, Hid (Lc.getD a en0 = e) := ⟨_, rfl⟩
           rw [He.out] at A0
           by_cases hj : b < en
           ·have hbk : b < k := by omega
            obtain ⟨e1, He1⟩ : ∃ e1, Hid (Lc.getD b en0 = e1) := ⟨_, rfl⟩
            have A1 := (H.out.1.below HM.out.2.below).2.2.1 ad rfl b (by omega)
            rw [He1.out] at A1
            obtain ⟨p, Hp⟩ : ∃ p, Hid (ahead e1 e = p) := ⟨_, rfl⟩
            have Hle := hide (ahead_of_le Hp.out)
            have L0 : ∀ d os, (ld28 (.pointer (some (ad.add (a * 4))))).run Tryz.prog (Sort.grow (redrawn w4 d) os) = .ok (EV e) (Sort.grow (redrawn w4 d) os) := fun d os => run_ld28 (A0.on (below_regrown w4 d os))
            have L1 : ∀ d os, (ld28 (.pointer (some (ad.add (b * 4))))).run Tryz.prog (Sort.grow (redrawn w4 d) os) = .ok (EV e1) (Sort.grow (redrawn w4 d) os) := fun d os => run_ld28 (A1.on (below_regrown w4 d os))
            have d1 : decide ((en : Int) <= (b : Int)) = false := decide_eq_false (by omega)
            have d2 : decide ((a : Int) < (mid : Int)) = true := decide_eq_true (by omega)
            cases p with
            | false =>
             have cD : ∀ d os, Calls Tryz.prog 97 #[EV e, EV e1, .int .i64 0] (Sort.grow (redrawn w4 d) os) fun x w'' => x = .returned (.bool false) /\ ∃ p : Regrown, w'' = Sort.grow (redrawn w4 p.d) p.os := fun d os => by
              have := later_any e e1 (Sort.grow (redrawn w4 d) os)
              rw [Hp.out] at this
              exact Calls.regrown_of this
             have HN : Hid (M ++ [e] ++ mrg leE Lc (a + 1) mid b en = T) := by show _ = _; have h := HM.out.1; rw [mrg_le leE Lc en0 a mid b en hi (by rw [HLc.out]; omega) hj (by rw [HLc.out]; omega) (by rw [He.out, He1.out, Hle.out]; rfl), He.out] at h; rw [List.append_assoc]; exact h
             have hml : M.length < T.length := by rw [<- HN.out]; simp
             have HO := hide HM.out.2
             go_wp2_with fail
             refine wp_region_quiet_below (by kernel_rfl) (by kernel_rfl) ?_
             repeat (with_reducible (refine wpQuiet_step ?_); intro K hK; go_simp; (try rw [if_neg (by unfold undef; simp)]); first | (with_reducible (refine hK _ ?_); clear hK K) | (apply Exists.intro; refine ⟨fun _ => ?_, hK _ ?_⟩; (go_at_call 97; exact cD _ _); clear hK K))
             with_reducible (refine wpQuiet_nil ?_)
             intro w5 hw'
             obtain ⟨⟨dq, osq⟩, hw''⟩ := hw'
             have B5 : Below w4.heap.size w4 w5 := by rw [hw'']; exact below_regrown w4 dq osq
             clear hw''
             have HO5 := hide (HO.out.later B5)
             have l5 := run_ld28 (A0.on B5)
             clear B5
             go_wp2_with (at_builtin; refine HO5.out.append e _ rfl (by omega) rfl (.tmp 89) (.tmp 94) rfl M.length rfl rfl rfl ?_; intro g5 c5 w6 O6 hk5)
             go_roundg ((mid - (a + 1)) + (en - (b)))
             case measure => omega
             case rel => exact ⟨a + 1, b, some ⟨g5, 0, none⟩, c5, M ++ [e], by omega, by omega, Nat.le_refl _, by simp, by go_num, by go_num, HN.out, O6⟩
            | true =>
             have cD : ∀ d os, Calls Tryz.prog 97 #[EV e, EV e1, .int .i64 0] (Sort.grow (redrawn w4 d) os) fun x w'' => x = .returned (.bool true) /\ ∃ p : Regrown, w'' = Sort.grow (redrawn w4 p.d) p.os := fun d os => by
              have := later_any e e1 (Sort.grow (redrawn w4 d) os)
              rw [Hp.out] at this
              exact Calls.regrown_of this
             have HN : Hid (M ++ [e1] ++ mrg leE Lc a mid (b + 1) en = T) := by show _ = _; have h := HM.out.1; rw [mrg_gt leE Lc en0 a mid b en hi (by rw [HLc.out]; omega) hj (by rw [HLc.out]; omega) (by rw [He.out, He1.out, Hle.out]; rfl), He1.out] at h; rw [List.append_assoc]; exact h
             have hml : M.length < T.length := by rw [<- HN.out]; simp
             have HO := hide HM.out.2
             go_wp2_with fail
             refine wp_region_quiet_below (by kernel_rfl) (by kernel_rfl) ?_
             repeat (with_reducible (refine wpQuiet_step ?_); intro K hK; go_simp; (try rw [if_neg (by unfold undef; simp)]); first | (with_reducible (refine hK _ ?_); clear hK K) | (apply Exists.intro; refine ⟨fun _ => ?_, hK _ ?_⟩; (go_at_call 97; exact cD _ _); clear hK K))
             with_reducible (refine wpQuiet_nil ?_)
             intro w5 hw'
             obtain ⟨⟨dq, osq⟩, hw''⟩ := hw'
             have B5 : Below w4.heap.size w4 w5 := by rw [hw'']; exact below_regrown w4 dq osq
             clear hw''
             have HO5 := hide (HO.out.later B5)
             have l5 := run_ld28 (A1.on B5)
             clear B5
             go_wp2_with (at_builtin; refine HO5.out.append e1 _ rfl (by omega) rfl (.tmp 98) (.tmp 103) rfl M.length rfl rfl rfl ?_; intro g5 c5 w6 O6 hk5)
             go_roundg ((mid - (a)) + (en - (b + 1)))
             case measure => omega
             case rel => exact ⟨a, b + 1, some ⟨g5, 0, none⟩, c5, M ++ [e1], by omega, by omega, Nat.le_refl _, by simp, by go_num, by go_num, HN.out, O6⟩
           ·have d1 : decide ((en : Int) <= (b : Int)) = true := decide_eq_true (by omega)
            have HN : Hid (M ++ [e] ++ mrg leE Lc (a + 1) mid b en = T) := by show _ = _; have h := HM.out.1; rw [mrg_left leE Lc en0 a mid b en hi (by rw [HLc.out]; omega) (by omega), He.out] at h; rw [List.append_assoc]; exact h
            have hml : M.length < T.length := by rw [<- HN.out]; simp
            have HO := hide HM.out.2
            go_wp2_with fail
            refine wp_region_quiet_below (by kernel_rfl) (by kernel_rfl) ?_
            repeat (with_reducible (refine wpQuiet_step ?_); intro K hK; go_simp; (try rw [if_neg (by unfold undef; simp)]); first | (with_reducible (refine hK _ ?_); clear hK K) | (apply Exists.intro; refine ⟨fun _ => ?_, hK _ ?_⟩; (fail); clear hK K))
            with_reducible (refine wpQuiet_nil ?_)
            intro w5 hw'
            obtain ⟨⟨dq, osq⟩, hw''⟩ := hw'
            have B5 : Below w4.heap.size w4 w5 := by rw [hw'']; exact below_regrown w4 dq osq
            clear hw''
            have HO5 := hide (HO.out.later B5)
            have l5 := run_ld28 (A0.on B5)
            clear B5
            go_wp2_with (at_builtin; refine HO5.out.append e _ rfl (by omega) rfl (.tmp 89) (.tmp 94) rfl M.length rfl rfl rfl ?_; intro g5 c5 w6 O6 hk5)
            go_roundg ((mid - (a + 1)) + (en - (b)))
            case measure => omega
            case rel => exact ⟨a + 1, b, some ⟨g5, 0, none⟩, c5, M ++ [e], by omega, by omega, Nat.le_refl _, by simp, by go_num, by go_num, HN.out, O6⟩
          ·by_cases hj : b < en
           ·have hbk : b < k := by omega
            obtain ⟨ad, rfl, A1⟩ := (H.out.1.below HM.out.2.below).at b (by omega)
            obtain ⟨e1, He1⟩ : ∃ e1, Hid (Lc.getD b en0 = e1) := ⟨_, rfl⟩
            rw [He1.out] at A1
            have d1 : decide ((en : Int) <= (b : Int)) = false := decide_eq_false (by omega)
            have d2 : decide ((a : Int) < (mid : Int)) = false := decide_eq_false (by omega)
            have HN : Hid (M ++ [e1] ++ mrg leE Lc a mid (b + 1) en = T) := by show _ = _; have h := HM.out.1; rw [mrg_right leE Lc en0 a mid b en (by omega) hj (by rw [HLc.out]; omega), He1.out] at h; rw [List.append_assoc]; exact h
            have hml : M.length < T.length := by rw [<- HN.out]; simp
            have HO := hide HM.out.2
            go_wp2_with fail
            refine wp_region_quiet_below (by kernel_rfl) (by kernel_rfl) ?_
            repeat (with_reducible (refine wpQuiet_step ?_); intro K hK; go_simp; (try rw [if_neg (by unfold undef; simp)]); first | (with_reducible (refine hK _ ?_); clear hK K) | (apply Exists.intro; refine ⟨fun _ => ?_, hK _ ?_⟩; (fail); clear hK K))
            with_reducible (refine wpQuiet_nil ?_)
            intro w5 hw'
            obtain ⟨⟨dq, osq⟩, hw''⟩ := hw'
            have B5 : Below w4.heap.size w4 w5 := by rw [hw'']; exact below_regrown w4 dq osq
            clear hw''
            have HO5 := hide (HO.out.later B5)
            have l5 := run_ld28 (A1.on B5)
            clear B5
            go_wp2_with (at_builtin; refine HO5.out.append e1 _ rfl (by omega) rfl (.tmp 98) (.tmp 103) rfl M.length rfl rfl rfl ?_; intro g5 c5 w6 O6 hk5)
            go_roundg ((mid - (a)) + (en - (b + 1)))
            case measure => omega
            case rel => exact ⟨a, b + 1, some ⟨g5, 0, none⟩, c5, M ++ [e1], by omega, by omega, Nat.le_refl _, by simp, by go_num, by go_num, HN.out, O6⟩
           ·have HE : Hid (M = T) := by show _ = _; have := HM.out.1; rwa [mrg_none leE Lc a mid b en (by omega) (by omega), List.append_nil] at this
            have HO := hide HM.out.2
            rw [HE.out] at HO ⊢
            go_wp2_with fail
            go_roundg (k + 2 * q - (f + 2 * q))
            case measure => omega
            case rel => exact ⟨f + 2 * q, t + 1, am, cm, T, by omega, Nat.le_refl _, rfl, by go_num, HPN.out, HO.out⟩
      ·obtain ⟨P1, P2, P3⟩ := HP.out.1.done HLc.out (by omega)
       have hsk : ∀ e ∈ M0, e.sku.size <= maxLen := fun e he => H.out.1.2.2.2.1 e (P1.mem_iff.1 he)
       obtain ⟨S2, F2⟩ := HP.out.2.src hsk (by omega)
       rw [P3] at S2
       rw [P3]
       have HN : Hid (ESrc w3 am k cm M0 /\ Below w.heap.size w w3 /\ (∀ ad, am = some ad -> w.heap.size <= ad.block) /\ M0.Perm L /\ Chunked (fun x y => leE x y = true) (2 * q) M0) :=
        ⟨S2, H.out.2.1.trans (HP.out.2.below.mono H.out.2.1.size), fun ad h => Nat.le_trans H.out.2.1.size (F2 ad h), P1.trans H.out.2.2.2.1, P2⟩
       clear P1 P2 P3 hsk S2 F2
       go_wp2_with fail
       go_roundw
       case rel => exact ⟨2 * q, am, cm, M0, by omega, by omega, rfl, by go_num, HN⟩
       case measure => simp [intOf]; omega
    ·have HN : Hid (GivesS w wr (.returned (.slice ap k c)) L) := ⟨Lc, ⟨H.out.2.2.2.1, chunked_whole H.out.2.2.2.2 (by rw [HLc.out]; omega)⟩, _, _, _, rfl, H.out.1, H.out.2.1, H.out.2.2.1⟩
     go_wp2_with fail
     go_ret
     exact HN.out
end Go.Proofs.YtalpnhfoaohhhaaGreat.K
