/- The reference's Sort. -/
import Derived.Test.YtmmgbcmcjakdoaaWNr
import Derived.Test.YtmmgbcmcjakdoaaWCr
import Derived.Test.YtmmgbcmcjakdoaaPu
import Derived.Deep.Cut
import Derived.Deep.CutRange
import Derived.Deep.LoopGhost
namespace Go.Proofs.Ytmmgbcmcjakdoaa
open Go.RowKit V

def sv0 : Sv := ⟨none, 0, 0, []⟩
theorem VRow.atD {w : World} {ao : Option Addr} {n : Nat} {X : List Sv} (h : VRow w ao n X) (k : Nat) (hk : k < n) : ∃ ad, ao = some ad ∧ w.cell? (ad.add k) = some (SvV (X.getD k sv0)) ∧ Src w (X.getD k sv0).vo (X.getD k sv0).vn (X.getD k sv0).vc (X.getD k sv0).Z := by
  obtain ⟨ad, p, h1, h2, h3, h4⟩ := h.at k hk
  have e : X.getD k sv0 = p := by rw [List.getD_eq_getElem?_getD, h2]; rfl
  rw [e]
  exact ⟨ad, h1, h3, h4⟩
def leS (p q : Sv) : Bool := decide (cmpC (cnOf p) (cnOf q) ≤ 0)
theorem leS_trans (a b c : Sv) (h : leS a b = true) (k : leS b c = true) : leS a c = true := by
  unfold leS at *
  rw [decide_eq_true_iff] at *
  rw [cmpC_eq] at *
  exact cmpV_tot.tr _ _ _ h k
theorem leS_total (a b : Sv) : (leS a b || leS b a) = true := by
  unfold leS
  rw [cmpC_eq, cmpC_eq]
  have := cmpV_tot.neg (sumN (cnOf a).1 16, lst (cnOf a).1) (sumN (cnOf b).1 16, lst (cnOf b).1)
  rw [Bool.or_eq_true, decide_eq_true_iff, decide_eq_true_iff]
  omega
/-- what Sort answers -/
def SortR (w w' : World) (e : Ending) (n : Nat) (X : List Sv) : Prop := ∃ lo lc Y L0, e = .returned (.slice lo n lc) ∧ VRow w' lo n Y ∧ Below w.heap.size w w' ∧ Y.Perm L0 ∧ Y.Pairwise (fun x y => leS x y = true) ∧ L0.map Sv.Z = X.map (fun p => short (at' p.Z))
theorem takeZ {X : List Sv} {k : Nat} (h : k < X.length) : (X.take (k + 1)).map (fun p => short (at' p.Z)) = (X.take k).map (fun p => short (at' p.Z)) ++ [short (at' (X.getD k sv0).Z)] := by
  rw [List.take_succ_eq_append_getElem h, List.map_append]
  have e : X.getD k sv0 = X[k] := by simp [List.getD, h]
  rw [e]
  rfl

set_option maxRecDepth 100000 in
set_option maxHeartbeats 16000000 in
theorem refSort_any (ao : Option Addr) (n cap : Nat) (X : List Sv) (w : World) (hS : VRow w ao n X) (hn : n ≤ 1048576) :
    Calls Try.prog 8 #[.slice ao n cap] w fun x w' => SortR w w' x n X := by
  have HS := hide hS
  have HX : Hid (X.length = n) := hS.len
  clear hS
  go_enter Try.func8, Try.ntmps8
  go_wp2_with fail
  go_loopw [3, 4] (fun v i wr => ∃ (k : Nat) (lo : Option Addr) (lc : Nat) (F : List Sv), k ≤ n ∧ i = .int .i64 k ∧ v = .slice lo k lc ∧ Hid (NR w.heap.size w wr lo lc F ∧ F.length = k ∧ F.map Sv.Z = (X.take k).map (fun p => short (at' p.Z)))) (fun _ i _ => n - (intOf i).toNat)
  case atStart => exact ⟨0, none, 0, [], Nat.zero_le _, rfl, rfl, NR.nil w, rfl, rfl⟩
  case round =>
    obtain ⟨k, lo, lc, F, hk, rfl, rfl, H⟩ := hrel
    by_cases hlt : k < n
    · obtain ⟨ad, rfl, cp, sp⟩ := (HS.out.below H.out.1.below).atD k hlt
      have HT := hide (takeZ (X := X) (k := k) (by have := HX.out; omega))
      obtain ⟨p, Hp⟩ : ∃ p, Hid (X.getD k sv0 = p) := ⟨_, rfl⟩
      rw [Hp.out] at cp sp HT
      have HSp := hide sp
      clear sp
      go_wp2_with fail
      refine (refNorm_new p.vo p.vn p.vc p.Z _ HSp.out).mono ?_
      rintro e w2 ⟨ao2, n2, c2, rfl, S2, b2, g2⟩
      have HR2 := hide (H.out.1.on b2)
      have HS2 := hide S2
      have HA2 := hide (H.out.1.fresh g2 (n := n2))
      have hFl := H.out.2.1
      have HF := hide H.out.2.2
      clear S2 b2 g2 cp HSp
      subst hFl
      go_wp2_with (at_builtin; refine HR2.out.app (p := ⟨ao2, n2, c2, short (at' p.Z)⟩) HS2.out HA2.out (by omega) rfl (.tmp 19) (.tmp 25) rfl F.length rfl rfl _ rfl rfl ?_; intro g4 c4 w4 R4)
      go_roundw
      case rel => exact ⟨F.length + 1, some ⟨g4, 0, none⟩, c4, F ++ [⟨ao2, n2, c2, short (at' p.Z)⟩], by omega, by go_num, rfl, R4, by simp, by rw [HT.out, List.map_append, HF.out]; rfl⟩
      case measure => simp [intOf]; omega
    · obtain rfl : k = n := by omega
      have HL0 : Hid (F.map Sv.Z = X.map (fun p => short (at' p.Z))) := by show _ = _; rw [H.out.2.2, List.take_of_length_le (by rw [HX.out]; exact Nat.le_refl _)]
      have HV0 : Hid (VRow wr lo k F ∧ Below w.heap.size w wr) := ⟨by have := H.out.1.row; rwa [H.out.2.1] at this, H.out.1.below⟩
      clear H HS HX
      rename World => wn
      go_wp2_with fail
      go_loopw [3, 6] (fun v i wl => ∃ (q : Nat) (ap : Option Addr) (c : Nat) (Lc : List Sv), 1 ≤ q ∧ q ≤ 4194304 ∧ v = .slice ap k c ∧ i = .int .i64 q ∧ Hid (VRow wl ap k Lc ∧ Below w.heap.size w wl ∧ Lc.Perm F ∧ Chunked (fun x y => leS x y = true) q Lc)) (fun _ i _ => k - (intOf i).toNat)
      case atStart => exact ⟨1, lo, lc, F, Nat.le_refl _, by omega, rfl, rfl, HV0.out.1, HV0.out.2, List.Perm.refl _, chunked_one _ _⟩
      case round =>
        clear HV0
        obtain ⟨q, ap, c, Lc, hq, hq2, rfl, rfl, H⟩ := hrel
        have HLc : Hid (Lc.length = k) := H.out.1.len
        rename World => w2
        by_cases hlt2 : q < k
        · go_wp2_with fail
          go_loopg [7, 8] (k + 2 * q) (fun g v i w3 => ∃ (f t : Nat) (am : Option Addr) (cm : Nat) (M : List Sv), f ≤ k + 2 * q ∧ k + 2 * q - f ≤ g ∧ v = .slice am M.length cm ∧ i = .int .i64 f ∧ Hid (Pass leS Lc M k q f t ∧ NR w2.heap.size w2 w3 am cm M))
          case atStart => exact ⟨0, 0, none, 0, [], Nat.zero_le _, by omega, rfl, rfl, Pass.start _ _ _ _, NR.nil w2⟩
          case round =>
            obtain ⟨f, t, am, cm, M0, hf, hg, rfl, rfl, HP⟩ := hrel
            rename World => w3
            by_cases hlt3 : f < k
            · have hm0 : M0.length = f := by rw [HP.out.1.hl]; omega
              obtain ⟨mid, HMid⟩ : ∃ mid, Hid (mid = min (f + q) k) := ⟨_, rfl⟩
              obtain ⟨en, HEn⟩ : ∃ en, Hid (en = min (mid + q) k) := ⟨_, rfl⟩
              have hmb : f ≤ mid ∧ mid ≤ k := by have := HMid.out; omega
              have heb : mid ≤ en ∧ en ≤ k := by have := HEn.out; omega
              go_upto_if 46 with fail
              go_cut [9] from 34 to 102 (fun s wx => s = .int .i64 (mid : Int) ∧ wx = w3)
              case first =>
                by_cases hA : k < f + q
                · have e : mid = k := by have := HMid.out; omega
                  subst e
                  go_wp2_with fail
                  go_meet
                  case rel => exact ⟨rfl, rfl⟩
                · have e : mid = f + q := by have := HMid.out; omega
                  subst e
                  go_wp2_with fail
                  go_meet
                  case rel => exact ⟨by go_num, rfl⟩
              case rest =>
                obtain ⟨rfl, rfl⟩ := hcut
                go_upto_if 53 with fail
                go_cut [10] from 34 to 102 (fun s wx => s = .int .i64 (en : Int) ∧ wx = wc)
                case first =>
                  by_cases hA : k < mid + q
                  · have e : en = k := by have := HEn.out; omega
                    subst e
                    go_wp2_with fail
                    go_meet
                    case rel => exact ⟨rfl, rfl⟩
                  · have e : en = mid + q := by have := HEn.out; omega
                    subst e
                    go_wp2_with fail
                    go_meet
                    case rel => exact ⟨by go_num, rfl⟩
                case rest =>
                  obtain ⟨rfl, rfl⟩ := hcut
                  rename World => w3
                  obtain ⟨hmb1, hmb2⟩ := hmb
                  obtain ⟨heb1, heb2⟩ := heb
                  obtain ⟨T, HT⟩ : ∃ T, Hid (M0 ++ mrg leS Lc f mid mid en = T) := ⟨_, rfl⟩
                  have HPN := hide (HP.out.1.step leS_trans leS_total HLc.out hlt3 H.out.2.2.2 HMid.out HEn.out)
                  rw [HT.out] at HPN
                  have hTl : T.length = en := by rw [← HT.out, List.length_append, hm0, mrg_length leS Lc f mid en k HLc.out hmb1 heb1 heb2]; omega
                  go_wp2_with fail
                  go_loopg [7, 11, 12] (mid + en) (fun g v i j w4 => ∃ (a b : Nat) (am : Option Addr) (cm : Nat) (M : List Sv), a ≤ mid ∧ b ≤ en ∧ (mid - a) + (en - b) ≤ g ∧ v = .slice am M.length cm ∧ i = .int .i64 a ∧ j = .int .i64 b ∧ Hid (M ++ mrg leS Lc a mid b en = T ∧ NR w2.heap.size w2 w4 am cm M))
                  case atStart => exact ⟨f, mid, am, cm, M0, hmb1, heb1, by omega, rfl, rfl, rfl, HT.out, HP.out.2⟩
                  case round =>
                    clear HT HP
                    obtain ⟨a, b, am, cm, M, ha, hb, hg2, rfl, rfl, rfl, HM⟩ := hrel
                    rename World => w4
                    by_cases hi : a < mid
                    · have hak : a < k := by omega
                      obtain ⟨gl, rfl, A0, S0⟩ := (H.out.1.below HM.out.2.below).atD a (by omega)
                      obtain ⟨-, -, -, E0⟩ := H.out.1.atD a (by omega)
                      obtain ⟨e, He⟩ : ∃ e, Hid (Lc.getD a sv0 = e) := ⟨_, rfl⟩
                      rw [He.out] at A0 S0 E0
                      have HA0 := hide (And.intro A0 S0)
                      have HE0 := hide E0
                      clear E0 S0
                      by_cases hj : b < en
                      · have hbk : b < k := by omega
                        obtain ⟨gl', hgl, A1, S1⟩ := (H.out.1.below HM.out.2.below).atD b (by omega)
                        obtain ⟨-, -, -, E1⟩ := H.out.1.atD b (by omega)
                        cases hgl
                        obtain ⟨e1, He1⟩ : ∃ e1, Hid (Lc.getD b sv0 = e1) := ⟨_, rfl⟩
                        rw [He1.out] at A1 S1 E1
                        have HA1 := hide (And.intro A1 S1)
                        have HE1 := hide E1
                        have k0 := cell_regrown A0
                        have k1 := cell_regrown A1
                        clear A0 A1 S1 E1
                        have d1 : decide ((en : Int) ≤ (b : Int)) = false := decide_eq_false (by omega)
                        have d2 : decide ((a : Int) < (mid : Int)) = true := decide_eq_true (by omega)
                        obtain ⟨z, Hz⟩ : ∃ z, Hid (cmpV (at' e.Z) (at' e1.Z) = z) := ⟨_, rfl⟩
                        have cC : ∀ d os, Calls Try.prog 22 #[.slice e.vo e.vn e.vc, .slice e1.vo e1.vn e1.vc] (Sort.grow (redrawn w4 d) os) fun e w'' => e = .returned (.int .i64 z) ∧ ∃ p : Regrown, w'' = Sort.grow (redrawn w4 p.d) p.os := fun d os => by
                          have h := refCompare_any _ _ _ _ _ _ e.Z e1.Z _ (HA0.out.2.below (below_regrown w4 d os)) (HA1.out.2.below (below_regrown w4 d os))
                          rw [Hz.out] at h
                          exact Calls.regrown_of h
                        by_cases hp : z ≤ 0
                        · have d3 : decide (z ≤ 0) = true := decide_eq_true hp
                          have HN : Hid (M ++ [e] ++ mrg leS Lc (a + 1) mid b en = T) := by show _ = _; have h := HM.out.1; rw [mrg_le leS Lc sv0 a mid b en hi (by rw [HLc.out]; omega) hj (by rw [HLc.out]; omega) (by rw [He.out, He1.out]; exact decide_eq_true (by show cmpV (at' e.Z) (at' e1.Z) ≤ 0; rw [Hz.out]; exact hp)), He.out] at h; rw [List.append_assoc]; exact h
                          have hml : M.length < T.length := by rw [← HN.out]; simp
                          have HO := hide HM.out.2
                          go_wp2_with fail
                          refine wp_region_quiet_below (by kernel_rfl) (by kernel_rfl) ?_
                          repeat (with_reducible (refine wpQuiet_step ?_); intro K hK; go_simp; (try rw [if_neg (by unfold undef; simp)]); first | (with_reducible (refine hK _ ?_); clear hK K) | (apply Exists.intro; refine ⟨fun _ => ?_, hK _ ?_⟩; (go_at_call 22; exact cC _ _); clear hK K))
                          with_reducible (refine wpQuiet_nil ?_)
                          intro w5 hw'
                          obtain ⟨⟨dq, osq⟩, hw''⟩ := hw'
                          have B5 : Below w4.heap.size w4 w5 := by rw [hw'']; exact below_regrown w4 dq osq
                          clear hw'' dq osq
                          have HO5 := hide (HO.out.on B5)
                          have cl : w5.cell? (gl.add a) = some (SvV e) := (B5.cell (World.block_lt_of_cell? _ _ HA0.out.1)).trans HA0.out.1
                          have HS5 := hide (HA0.out.2.below B5)
                          have HP5 := hide (HO.out.older (p := e) HE0.out (Nat.le_refl _))
                          clear B5
                          go_wp2_with (at_builtin; refine HO5.out.app (p := e) HS5.out HP5.out (by omega) rfl (.tmp 85) (.tmp 90) rfl M.length rfl rfl _ rfl rfl ?_; intro g5 c5 w6 O6)
                          go_roundg ((mid - (a + 1)) + (en - (b)))
                          case measure => omega
                          case rel => exact ⟨a + 1, b, some ⟨g5, 0, none⟩, c5, M ++ [e], by omega, by omega, Nat.le_refl _, by simp, by go_num, by go_num, HN.out, O6⟩
                        · have d3 : decide (z ≤ 0) = false := decide_eq_false hp
                          have HN : Hid (M ++ [e1] ++ mrg leS Lc a mid (b + 1) en = T) := by show _ = _; have h := HM.out.1; rw [mrg_gt leS Lc sv0 a mid b en hi (by rw [HLc.out]; omega) hj (by rw [HLc.out]; omega) (by rw [He.out, He1.out]; exact decide_eq_false (by show ¬ cmpV (at' e.Z) (at' e1.Z) ≤ 0; rw [Hz.out]; exact hp)), He1.out] at h; rw [List.append_assoc]; exact h
                          have hml : M.length < T.length := by rw [← HN.out]; simp
                          have HO := hide HM.out.2
                          go_wp2_with fail
                          refine wp_region_quiet_below (by kernel_rfl) (by kernel_rfl) ?_
                          repeat (with_reducible (refine wpQuiet_step ?_); intro K hK; go_simp; (try rw [if_neg (by unfold undef; simp)]); first | (with_reducible (refine hK _ ?_); clear hK K) | (apply Exists.intro; refine ⟨fun _ => ?_, hK _ ?_⟩; (go_at_call 22; exact cC _ _); clear hK K))
                          with_reducible (refine wpQuiet_nil ?_)
                          intro w5 hw'
                          obtain ⟨⟨dq, osq⟩, hw''⟩ := hw'
                          have B5 : Below w4.heap.size w4 w5 := by rw [hw'']; exact below_regrown w4 dq osq
                          clear hw'' dq osq
                          have HO5 := hide (HO.out.on B5)
                          have cl : w5.cell? (gl.add b) = some (SvV e1) := (B5.cell (World.block_lt_of_cell? _ _ HA1.out.1)).trans HA1.out.1
                          have HS5 := hide (HA1.out.2.below B5)
                          have HP5 := hide (HO.out.older (p := e1) HE1.out (Nat.le_refl _))
                          clear B5
                          go_wp2_with (at_builtin; refine HO5.out.app (p := e1) HS5.out HP5.out (by omega) rfl (.tmp 94) (.tmp 99) rfl M.length rfl rfl _ rfl rfl ?_; intro g5 c5 w6 O6)
                          go_roundg ((mid - (a)) + (en - (b + 1)))
                          case measure => omega
                          case rel => exact ⟨a, b + 1, some ⟨g5, 0, none⟩, c5, M ++ [e1], by omega, by omega, Nat.le_refl _, by simp, by go_num, by go_num, HN.out, O6⟩
                      · have d1 : decide ((en : Int) ≤ (b : Int)) = true := decide_eq_true (by omega)
                        have HN : Hid (M ++ [e] ++ mrg leS Lc (a + 1) mid b en = T) := by show _ = _; have h := HM.out.1; rw [mrg_left leS Lc sv0 a mid b en hi (by rw [HLc.out]; omega) (by omega), He.out] at h; rw [List.append_assoc]; exact h
                        have hml : M.length < T.length := by rw [← HN.out]; simp
                        have HO := hide HM.out.2
                        clear A0
                        go_wp2_with fail
                        refine wp_region_quiet_below (by kernel_rfl) (by kernel_rfl) ?_
                        repeat (with_reducible (refine wpQuiet_step ?_); intro K hK; go_simp; (try rw [if_neg (by unfold undef; simp)]); first | (with_reducible (refine hK _ ?_); clear hK K) | (apply Exists.intro; refine ⟨fun _ => ?_, hK _ ?_⟩; (fail); clear hK K))
                        with_reducible (refine wpQuiet_nil ?_)
                        intro w5 hw'
                        obtain ⟨⟨dq, osq⟩, hw''⟩ := hw'
                        have B5 : Below w4.heap.size w4 w5 := by rw [hw'']; exact below_regrown w4 dq osq
                        clear hw'' dq osq
                        have HO5 := hide (HO.out.on B5)
                        have cl : w5.cell? (gl.add a) = some (SvV e) := (B5.cell (World.block_lt_of_cell? _ _ HA0.out.1)).trans HA0.out.1
                        have HS5 := hide (HA0.out.2.below B5)
                        have HP5 := hide (HO.out.older (p := e) HE0.out (Nat.le_refl _))
                        clear B5
                        go_wp2_with (at_builtin; refine HO5.out.app (p := e) HS5.out HP5.out (by omega) rfl (.tmp 85) (.tmp 90) rfl M.length rfl rfl _ rfl rfl ?_; intro g5 c5 w6 O6)
                        go_roundg ((mid - (a + 1)) + (en - (b)))
                        case measure => omega
                        case rel => exact ⟨a + 1, b, some ⟨g5, 0, none⟩, c5, M ++ [e], by omega, by omega, Nat.le_refl _, by simp, by go_num, by go_num, HN.out, O6⟩
                    · by_cases hj : b < en
                      · have hbk : b < k := by omega
                        obtain ⟨gl, rfl, A1, S1⟩ := (H.out.1.below HM.out.2.below).atD b (by omega)
                        obtain ⟨-, -, -, E1⟩ := H.out.1.atD b (by omega)
                        obtain ⟨e1, He1⟩ : ∃ e1, Hid (Lc.getD b sv0 = e1) := ⟨_, rfl⟩
                        rw [He1.out] at A1 S1 E1
                        have HA1 := hide (And.intro A1 S1)
                        have HE1 := hide E1
                        clear A1 S1 E1
                        have d1 : decide ((en : Int) ≤ (b : Int)) = false := decide_eq_false (by omega)
                        have d2 : decide ((a : Int) < (mid : Int)) = false := decide_eq_false (by omega)
                        have HN : Hid (M ++ [e1] ++ mrg leS Lc a mid (b + 1) en = T) := by show _ = _; have h := HM.out.1; rw [mrg_right leS Lc sv0 a mid b en (by omega) hj (by rw [HLc.out]; omega), He1.out] at h; rw [List.append_assoc]; exact h
                        have hml : M.length < T.length := by rw [← HN.out]; simp
                        have HO := hide HM.out.2
                        go_wp2_with fail
                        refine wp_region_quiet_below (by kernel_rfl) (by kernel_rfl) ?_
                        repeat (with_reducible (refine wpQuiet_step ?_); intro K hK; go_simp; (try rw [if_neg (by unfold undef; simp)]); first | (with_reducible (refine hK _ ?_); clear hK K) | (apply Exists.intro; refine ⟨fun _ => ?_, hK _ ?_⟩; (fail); clear hK K))
                        with_reducible (refine wpQuiet_nil ?_)
                        intro w5 hw'
                        obtain ⟨⟨dq, osq⟩, hw''⟩ := hw'
                        have B5 : Below w4.heap.size w4 w5 := by rw [hw'']; exact below_regrown w4 dq osq
                        clear hw'' dq osq
                        have HO5 := hide (HO.out.on B5)
                        have cl : w5.cell? (gl.add b) = some (SvV e1) := (B5.cell (World.block_lt_of_cell? _ _ HA1.out.1)).trans HA1.out.1
                        have HS5 := hide (HA1.out.2.below B5)
                        have HP5 := hide (HO.out.older (p := e1) HE1.out (Nat.le_refl _))
                        clear B5
                        go_wp2_with (at_builtin; refine HO5.out.app (p := e1) HS5.out HP5.out (by omega) rfl (.tmp 94) (.tmp 99) rfl M.length rfl rfl _ rfl rfl ?_; intro g5 c5 w6 O6)
                        go_roundg ((mid - (a)) + (en - (b + 1)))
                        case measure => omega
                        case rel => exact ⟨a, b + 1, some ⟨g5, 0, none⟩, c5, M ++ [e1], by omega, by omega, Nat.le_refl _, by simp, by go_num, by go_num, HN.out, O6⟩
                      · have HE : Hid (M = T) := by show _ = _; have := HM.out.1; rwa [mrg_none leS Lc a mid b en (by omega) (by omega), List.append_nil] at this
                        have HO := hide HM.out.2
                        rw [HE.out] at HO ⊢
                        go_wp2_with fail
                        go_roundg (k + 2 * q - (f + 2 * q))
                        case measure => omega
                        case rel => exact ⟨f + 2 * q, t + 1, am, cm, T, by omega, Nat.le_refl _, rfl, by go_num, HPN.out, HO.out⟩
            · obtain ⟨P1, P2, P3⟩ := HP.out.1.done HLc.out (by omega)
              have S2 := HP.out.2.row
              rw [P3] at S2
              rw [P3]
              have HN : Hid (VRow w3 am k M0 ∧ Below w.heap.size w w3 ∧ M0.Perm F ∧ Chunked (fun x y => leS x y = true) (2 * q) M0) :=
                ⟨S2, H.out.2.1.trans (HP.out.2.below.mono H.out.2.1.size), P1.trans H.out.2.2.1, P2⟩
              clear P1 P2 P3 S2
              go_wp2_with fail
              go_roundw
              case rel => exact ⟨2 * q, am, cm, M0, by omega, by omega, rfl, by go_num, HN⟩
              case measure => simp [intOf]; omega
        · have HR : Hid (Lc.Pairwise (fun x y => leS x y = true)) := chunked_whole H.out.2.2.2 (by rw [HLc.out]; omega)
          have HN : Hid (SortR w w2 (.returned (.slice ap k c)) k X) := ⟨ap, c, Lc, F, rfl, H.out.1, H.out.2.1, H.out.2.2.1, HR.out, HL0.out⟩
          go_wp2_with fail
          go_ret
          exact HN.out
end Go.Proofs.Ytmmgbcmcjakdoaa
