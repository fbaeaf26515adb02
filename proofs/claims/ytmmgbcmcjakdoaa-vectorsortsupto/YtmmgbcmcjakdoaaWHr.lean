/- The reference's Heads. -/
import Derived.Test.YtmmgbcmcjakdoaaWSp
import Derived.Test.YtmmgbcmcjakdoaaWOo
namespace Go.Proofs.Ytmmgbcmcjakdoaa
open Go.RowKit V

theorem refHeads_big (ao : Option Addr) (n cap : Nat) (w : World) (hn : 256 < n) : Calls Try.prog 9 #[.slice ao n cap] w fun e w' => e = .returned (.tuple #[.slice none 0 0, .int .i64 2]) ∧ Below w.heap.size w w' := by
  go_enter Try.func9, Try.ntmps9
  go_wp2_with fail
  go_ret2
  exact ⟨rfl, Below.refl _ _⟩
/-- what Heads answers -/
def HeadsR (w w' : World) (e : Ending) (X : List Sv) : Prop := ∃ lo lc F Y, e = .returned (.tuple #[.slice lo F.length lc, .int .i64 0]) ∧ VRow w' lo F.length F ∧ Below w.heap.size w w' ∧ Srt X Y ∧ F.map Sv.Z = (hdR (dOf Y) (dOf Y).size).map (fun c : Cn => short c.1)
theorem wrapI {x : Int} (h1 : -9223372036854775808 ≤ x) (h2 : x ≤ 9223372036854775807) : IntKind.i64.wrap x = x := by
  rw [IntKind.wrap_i64]; omega
theorem ord_bef (p q : Sv) : bef (cnOf p) (cnOf q) = (ordF (at' p.Z) (at' q.Z) == 1) := rfl
set_option maxRecDepth 100000 in
set_option maxHeartbeats 16000000 in
theorem refHeads_any (ao : Option Addr) (n cap : Nat) (X : List Sv) (w : World) (hS : VRow w ao n X) (hn : n ≤ 256) :
    Calls Try.prog 9 #[.slice ao n cap] w fun x w' => HeadsR w w' x X := by
  have HS := hide hS
  clear hS
  go_enter Try.func9, Try.ntmps9
  go_wp2_with fail
  refine (refSort_any ao n cap X _ HS.out (by omega)).mono ?_
  intro e w1 h1
  obtain ⟨lo, lc, Y, rfl, V1, b1, D1⟩ := sortR_d h1
  have HV := hide V1
  have HB := hide b1
  have HD := hide D1
  have hYl : Hid (Y.length = n) := V1.len
  clear h1 V1 b1 D1 HS
  go_wp2_with fail
  go_loopw [5, 6] (fun v i wr => ∃ (k : Nat) (xo : Option Addr) (xc : Nat) (F : List Sv), k ≤ n ∧ i = .int .i64 k ∧ v = .slice xo F.length xc ∧ Hid (NR w1.heap.size w1 wr xo xc F ∧ F.map Sv.Z = (hdR (dOf Y) k).map (fun c : Cn => short c.1) ∧ F.length ≤ k)) (fun _ i _ => n - (intOf i).toNat)
  case atStart => exact ⟨0, none, 0, [], Nat.zero_le _, rfl, rfl, NR.nil w1, rfl, Nat.le_refl _⟩
  case round =>
    obtain ⟨k, xo, xc, F, hk, rfl, rfl, H⟩ := hrel
    rename World => wo
    by_cases hlt : k < n
    · obtain ⟨gl, rfl, A0, S0⟩ := (HV.out.below H.out.1.below).atD k hlt
      obtain ⟨-, -, -, E0⟩ := HV.out.atD k hlt
      have hN := HD.out.nf _ (getD_mem (Y := Y) (k := k) (by rw [hYl.out]; exact hlt))
      have HU := hide (hdR_succ (dOf Y) k)
      rw [dOf_at Y k (by rw [hYl.out]; exact hlt)] at HU
      have HKP : Hid (∀ j, k = j + 1 → Lib.keeps (dOf Y) (j + 1) = !(decide ((Y.getD k sv0).Z = (Y.getD j sv0).Z))) := fun j e => by subst e; exact HD.out.keeps j (by rw [hYl.out]; exact hlt)
      obtain ⟨p, Hp⟩ : ∃ p, Hid (Y.getD k sv0 = p) := ⟨_, rfl⟩
      rw [Hp.out] at A0 S0 E0 HU HKP hN
      have HA0 := hide (And.intro A0 S0)
      have HE0 := hide E0
      have HN0 := hide hN
      have HL0 : Hid (p.vn ≤ maxLen) := by
        have a := S0.1
        rw [hN, short_length] at a
        have := top_le (at' p.Z)
        show p.vn ≤ maxLen
        unfold maxLen; omega
      clear A0 S0 E0 hN
      go_wp2_with fail
      go_loopw [7, 8] (fun b i wr => ∃ (j : Nat), j ≤ n ∧ i = .int .i64 j ∧ b = .bool (!(((dOf Y).toList.take j).any (bef (cnOf p)))) ∧ Hid (Below wo.heap.size wo wr)) (fun _ i _ => n - (intOf i).toNat)
      case atStart => exact ⟨0, Nat.zero_le _, rfl, rfl, Below.refl _ _⟩
      case round =>
        obtain ⟨j, hj, rfl, rfl, HW⟩ := hrel
        rename World => wi
        by_cases hjt : j < n
        · obtain ⟨gl', hgl, A1, S1⟩ := ((HV.out.below H.out.1.below).below HW.out).atD j hjt
          cases hgl
          have HX := hide (any_next (dOf Y) (cnOf p) j (by rw [dOf_size, hYl.out]; exact hjt))
          rw [dOf_at Y j (by rw [hYl.out]; exact hjt)] at HX
          obtain ⟨q, Hq⟩ : ∃ q, Hid (Y.getD j sv0 = q) := ⟨_, rfl⟩
          rw [Hq.out] at A1 S1 HX
          have k0 := cell_regrown ((HW.out.cell (World.block_lt_of_cell? _ _ HA0.out.1)).trans HA0.out.1)
          have k1 := cell_regrown A1
          obtain ⟨o, Ho⟩ : ∃ o, Hid (ordF (at' p.Z) (at' q.Z) = o) := ⟨_, rfl⟩
          have HS1 := hide S1
          have cO : ∀ d os, Calls Try.prog 23 #[.slice p.vo p.vn p.vc, .slice q.vo q.vn q.vc] (Sort.grow (redrawn wi d) os) fun e w'' => e = .returned (.int .i64 o) ∧ ∃ p : Regrown, w'' = Sort.grow (redrawn wi p.d) p.os := fun d os => by
            have h := refOrder_any _ _ _ _ _ _ p.Z q.Z _ ((HA0.out.2.below HW.out).below (below_regrown wi d os)) (HS1.out.below (below_regrown wi d os))
            rw [Ho.out] at h
            exact Calls.regrown_of h
          rw [ord_bef, Ho.out] at HX
          obtain ⟨lt, hlt'⟩ : ∃ lt, (!(((dOf Y).toList.take j).any (bef (cnOf p)))) = lt := ⟨_, rfl⟩
          rw [hlt'] at HX ⊢
          clear hlt' A1 S1
          by_cases ho : o = 1
          · have d1 : (o == 1) = true := by simp [ho]
            rw [d1, Bool.not_true, Bool.and_false] at HX
            clear ho
            go_wp2_with fail
            refine wp_region_quiet_below (by kernel_rfl) (by kernel_rfl) ?_
            repeat (with_reducible (refine wpQuiet_step ?_); intro K hK; go_simp; (try rw [if_neg (by unfold undef; simp)]); first | (with_reducible (refine hK _ ?_); clear hK K) | (apply Exists.intro; refine ⟨fun _ => ?_, hK _ ?_⟩; (go_at_call 23; exact cO _ _); clear hK K))
            with_reducible (refine wpQuiet_nil ?_)
            intro w5 hw'
            obtain ⟨⟨dq, osq⟩, hw''⟩ := hw'
            have B5 : Below wi.heap.size wi w5 := by rw [hw'']; exact below_regrown wi dq osq
            clear hw'' dq osq
            have HW5 : Hid (Below wo.heap.size wo w5) := HW.out.trans (B5.mono HW.out.size)
            clear B5
            go_wp2_with fail
            go_roundw
            case rel => exact ⟨j + 1, by omega, by go_num, by rw [HX.out], HW5⟩
            case measure => simp [intOf]; omega
          · have d1 : (o == 1) = false := by simp [ho]
            rw [d1, Bool.not_false, Bool.and_true] at HX
            clear ho
            go_wp2_with fail
            refine wp_region_quiet_below (by kernel_rfl) (by kernel_rfl) ?_
            repeat (with_reducible (refine wpQuiet_step ?_); intro K hK; go_simp; (try rw [if_neg (by unfold undef; simp)]); first | (with_reducible (refine hK _ ?_); clear hK K) | (apply Exists.intro; refine ⟨fun _ => ?_, hK _ ?_⟩; (go_at_call 23; exact cO _ _); clear hK K))
            with_reducible (refine wpQuiet_nil ?_)
            intro w5 hw'
            obtain ⟨⟨dq, osq⟩, hw''⟩ := hw'
            have B5 : Below wi.heap.size wi w5 := by rw [hw'']; exact below_regrown wi dq osq
            clear hw'' dq osq
            have HW5 : Hid (Below wo.heap.size wo w5) := HW.out.trans (B5.mono HW.out.size)
            clear B5
            go_wp2_with fail
            go_roundw
            case rel => exact ⟨j + 1, by omega, by go_num, by rw [HX.out], HW5⟩
            case measure => simp [intOf]; omega
        · obtain rfl : j = n := by omega
          rw [List.take_of_length_le (by rw [Array.length_toList, dOf_size, hYl.out]; exact Nat.le_refl _)]
          obtain ⟨b, hb⟩ : ∃ b, (!((dOf Y).toList.any (bef (cnOf p)))) = b := ⟨_, rfl⟩
          rw [hb] at HU ⊢
          clear hb
          have HR := hide (H.out.1.on HW.out)
          have HF := hide H.out.2
          have HAi : Hid (wi.cell? (gl.add k) = some (SvV p) ∧ Src wi p.vo p.vn p.vc p.Z) := ⟨(HW.out.cell (World.block_lt_of_cell? _ _ HA0.out.1)).trans HA0.out.1, HA0.out.2.below HW.out⟩
          have hFl : F.length ≤ k := H.out.2.2
          by_cases h0 : k = 0
          · have kz : Lib.keeps (dOf Y) k = true := by rw [h0]; exact keeps_zero _
            rw [kz, Bool.true_and] at HU
            have d1 : decide (0 < (k : Int)) = false := decide_eq_false (by omega)
            have d2 : decide (0 < k) = false := decide_eq_false (by omega)
            clear kz h0
            go_wp2_with fail
            refine wp_region_quiet_below (by kernel_rfl) (by kernel_rfl) ?_
            repeat (with_reducible (refine wpQuiet_step ?_); intro K hK; go_simp; (try rw [if_neg (by unfold undef; simp)]); first | (with_reducible (refine hK _ ?_); clear hK K) | (apply Exists.intro; refine ⟨fun _ => ?_, hK _ ?_⟩; (fail); clear hK K))
            with_reducible (refine wpQuiet_nil ?_)
            intro w5 hw'
            obtain ⟨⟨dq, osq⟩, hw''⟩ := hw'
            have B5 : Below wi.heap.size wi w5 := by rw [hw'']; exact below_regrown wi dq osq
            clear hw'' dq osq
            cases b with
            | true =>
              rw [if_pos rfl] at HU
              have HR5 := hide (HR.out.on B5)
              have HS5 := hide (HAi.out.2.below B5)
              have HP5 := hide (HR.out.older (p := p) HE0.out (Nat.le_refl _))
              have cl : w5.cell? (gl.add k) = some (SvV p) := (B5.cell (World.block_lt_of_cell? _ _ HAi.out.1)).trans HAi.out.1
              clear B5
              go_wp2_with (at_builtin; refine HR5.out.app (p := p) HS5.out HP5.out (by omega) rfl (.tmp 51) (.tmp 56) rfl F.length rfl rfl _ rfl rfl ?_; intro g6 c6 w6 R6)
              go_roundw
              case rel => exact ⟨k + 1, some ⟨g6, 0, none⟩, c6, F ++ [p], by omega, by go_num, by simp, R6, by rw [HU.out, List.map_append, List.map_append, HF.out.1]; show _ ++ [p.Z] = _ ++ [short (at' p.Z)]; rw [← HN0.out], by simp; omega⟩
              case measure => simp [intOf]; omega
            | false =>
              rw [if_neg (by simp), List.append_nil] at HU
              have HR5 := hide (HR.out.on B5)
              clear B5
              go_wp2_with fail
              go_roundw
              case rel => exact ⟨k + 1, xo, xc, F, by omega, by go_num, rfl, HR5.out, by rw [HU.out]; exact HF.out.1, by omega⟩
              case measure => simp [intOf]; omega
          · obtain ⟨m, hm⟩ : ∃ m, k = m + 1 := ⟨k - 1, by omega⟩
            obtain ⟨gl', hgl, A1, S1⟩ := ((HV.out.below H.out.1.below).below HW.out).atD m (by omega)
            cases hgl
            have HQ := hide (HKP.out m hm)
            rw [← hm] at HQ
            obtain ⟨q, Hq⟩ : ∃ q, Hid (Y.getD m sv0 = q) := ⟨_, rfl⟩
            rw [Hq.out] at A1 S1 HQ
            have HS1 := hide S1
            have k0 := cell_regrown HAi.out.1
            have k1 := cell_regrown A1
            obtain ⟨z, hz⟩ : ∃ z, decide (p.Z = q.Z) = z := ⟨_, rfl⟩
            have cE : ∀ d os, Calls Try.prog 15 #[.slice p.vo p.vn p.vc, .slice q.vo q.vn q.vc] (Sort.grow (redrawn wi d) os) fun e w'' => e = .returned (.bool z) ∧ ∃ p : Regrown, w'' = Sort.grow (redrawn wi p.d) p.os := fun d os => by
              have h := equal_any _ _ _ _ _ _ p.Z q.Z _ (HAi.out.2.below (below_regrown wi d os)) (HS1.out.below (below_regrown wi d os)) HL0.out
              rw [hz] at h
              exact Calls.regrown_of h
            rw [hz] at HQ
            rw [HQ.out] at HU
            have d1 : decide (0 < (k : Int)) = true := decide_eq_true (by omega)
            have d4 : decide (0 < k) = true := decide_eq_true (by omega)
            have d2 : wrap64 ((k : Int) - 1) = (m : Int) := by unfold wrap64; omega
            have d5 : IntKind.i64.wrap ((k : Int) - 1) = (m : Int) := by rw [show (k : Int) - 1 = (m : Int) by omega]; exact wrapI (by omega) (by omega)
            have d3 : m < j := by omega
            clear hz A1 S1 HQ hm h0
            cases z with
            | true =>
              rw [Bool.not_true, Bool.false_and, if_neg (by simp), List.append_nil] at HU
              go_wp2_with fail
              refine wp_region_quiet_below (by kernel_rfl) (by kernel_rfl) ?_
              repeat (with_reducible (refine wpQuiet_step ?_); intro K hK; go_simp; (try rw [if_neg (by unfold undef; simp)]); first | (with_reducible (refine hK _ ?_); clear hK K) | (apply Exists.intro; refine ⟨fun _ => ?_, hK _ ?_⟩; (go_at_call 15; exact cE _ _); clear hK K))
              with_reducible (refine wpQuiet_nil ?_)
              intro w5 hw'
              obtain ⟨⟨dq, osq⟩, hw''⟩ := hw'
              have B5 : Below wi.heap.size wi w5 := by rw [hw'']; exact below_regrown wi dq osq
              clear hw'' dq osq
              have HR5 := hide (HR.out.on B5)
              clear B5
              go_wp2_with fail
              go_roundw
              case rel => exact ⟨k + 1, xo, xc, F, by omega, by go_num, rfl, HR5.out, by rw [HU.out]; exact HF.out.1, by omega⟩
              case measure => simp [intOf]; omega
            | false =>
              rw [Bool.not_false, Bool.true_and] at HU
              go_wp2_with fail
              refine wp_region_quiet_below (by kernel_rfl) (by kernel_rfl) ?_
              repeat (with_reducible (refine wpQuiet_step ?_); intro K hK; go_simp; (try rw [if_neg (by unfold undef; simp)]); first | (with_reducible (refine hK _ ?_); clear hK K) | (apply Exists.intro; refine ⟨fun _ => ?_, hK _ ?_⟩; (go_at_call 15; exact cE _ _); clear hK K))
              with_reducible (refine wpQuiet_nil ?_)
              intro w5 hw'
              obtain ⟨⟨dq, osq⟩, hw''⟩ := hw'
              have B5 : Below wi.heap.size wi w5 := by rw [hw'']; exact below_regrown wi dq osq
              clear hw'' dq osq
              cases b with
              | true =>
                rw [if_pos rfl] at HU
                have HR5 := hide (HR.out.on B5)
                have HS5 := hide (HAi.out.2.below B5)
                have HP5 := hide (HR.out.older (p := p) HE0.out (Nat.le_refl _))
                have cl : w5.cell? (gl.add k) = some (SvV p) := (B5.cell (World.block_lt_of_cell? _ _ HAi.out.1)).trans HAi.out.1
                clear B5
                go_wp2_with (at_builtin; refine HR5.out.app (p := p) HS5.out HP5.out (by omega) rfl (.tmp 51) (.tmp 56) rfl F.length rfl rfl _ rfl rfl ?_; intro g6 c6 w6 R6)
                go_roundw
                case rel => exact ⟨k + 1, some ⟨g6, 0, none⟩, c6, F ++ [p], by omega, by go_num, by simp, R6, by rw [HU.out, List.map_append, List.map_append, HF.out.1]; show _ ++ [p.Z] = _ ++ [short (at' p.Z)]; rw [← HN0.out], by simp; omega⟩
                case measure => simp [intOf]; omega
              | false =>
                rw [if_neg (by simp), List.append_nil] at HU
                have HR5 := hide (HR.out.on B5)
                clear B5
                go_wp2_with fail
                go_roundw
                case rel => exact ⟨k + 1, xo, xc, F, by omega, by go_num, rfl, HR5.out, by rw [HU.out]; exact HF.out.1, by omega⟩
                case measure => simp [intOf]; omega
    · obtain rfl : k = n := by omega
      have HZ := hide H.out.2.1
      rw [show k = (dOf Y).size by rw [dOf_size]; exact hYl.out.symm] at HZ
      have HN : Hid (HeadsR w wo (.returned (.tuple #[.slice xo F.length xc, .int .i64 0])) X) := ⟨xo, xc, F, Y, rfl, H.out.1.row, HB.out.trans (H.out.1.below.mono HB.out.size), HD.out, HZ.out⟩
      go_wp2_with fail
      go_ret2
      exact HN.out
end Go.Proofs.Ytmmgbcmcjakdoaa
