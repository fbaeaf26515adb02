/- PSm -/
import Derived.Test.YtooinnhjeloocaaGreatLs11
import Derived.Laws.StructEq
namespace Go.Proofs.YtooinnhjeloocaaGreat
open Go.RowKit
attribute [local go_sem ↓] ldP_eq stP_eq ldS_eq
attribute [local go_sem] zero_PC cells_PV fold_PC PC_size
def eqS (x y : Sn) : Bool := x.rep == y.rep && x.lo == y.lo && x.hi == y.hi
theorem eqS_iff (x y : Sn) : eqS x y = true ↔ x = y := by
  obtain ⟨a, b, c⟩ := x
  obtain ⟨a', b', c'⟩ := y
  simp [eqS, and_assoc]
theorem run_eqS (x y : Sn) (w : World) : (Op.equalIn 10000 55 (.agg (SC x)) (.agg (SC y))).run Tryz.prog w = .ok (eqS x y) w := by
  have u3 := Tryz.underlying3
  have a3 := Tryz.isAgg3
  have z3 := Tryz.sizeOf3
  have hS : Tryz.prog.underlying 55 = some (.struct (Tryz.prog.fieldsOf 55)) := by kernel_rfl
  have hp : Tryz.prog.stoodInHeld 55 = false := by kernel_rfl
  obtain ⟨a, b, c⟩ := x
  obtain ⟨a', b', c'⟩ := y
  show (Op.equalIn 10000 55 (.agg #[.int .i64 a, .int .i64 b, .int .i64 c]) (.agg #[.int .i64 a', .int .i64 b', .int .i64 c'])).run Tryz.prog w = .ok (a == a' && b == b' && c == c') w
  rw [show (10000 : Nat) = 9999 + 1 from rfl, run_equalIn_struct w 9999 55 _ _ hS hp]
  simp only [Program.fieldsOf, Tryz.underlying55]
  have h3 : ∀ (p q : Int) w, (Op.equalIn 9999 3 (.int .i64 p) (.int .i64 q)).run Tryz.prog w = .ok (p == q) w := fun p q w => run_equalIn_int w 9998 3 .i64 .i64 p q Tryz.underlying3
  obtain ⟨D, hD⟩ : ∃ D, 9999 = D := ⟨9999, rfl⟩
  rw [hD] at h3 ⊢
  go_simp
  by_cases e1 : a = a'
  · by_cases e2 : b = b'
    · by_cases e3 : c = c'
      · simp [e1, e2, e3]
      · simp [e1, e2, e3]
    · simp [e1, e2]
  · simp [e1]
attribute [local go_sem ↓] run_eqS
theorem take_snocS (l : List Sn) (k : Nat) (h : k < l.length) : l.take (k + 1) = l.take k ++ [l.getD k sn0] := by
  rw [List.take_succ_eq_append_getElem h]; simp [List.getD, h]
theorem take_snocI (l : List Int) (k : Nat) (h : k < l.length) : l.take (k + 1) = l.take k ++ [l.getD k 0] := by
  rw [List.take_succ_eq_append_getElem h]; simp [List.getD, h]
def GivesB (w w' : World) (e : Ending) (P : Prop) : Prop := ∃ x, e = .returned (.bool x) ∧ (x = true ↔ P) ∧ Below w.heap.size w w'
theorem vsrc_at {w : World} {ao : Option Addr} {n c : Nat} {Z : List Int} (S : V.Src w ao n c Z) (k : Nat) (h : k < n) : ∃ ad, ao = some ad ∧ w.cell? (ad.add k) = some (.int .i64 (Z.getD k 0)) := by
  cases ao with
  | none => have := S.2.1 rfl; omega
  | some ad => exact ⟨ad, rfl, S.2.2 ad rfl k h⟩

set_option maxRecDepth 100000 in
set_option maxHeartbeats 4000000 in
theorem samePast_any (a b : Pv) (w : World) (hA : PSrc w a) (hB : PSrc w b) :
    Calls Tryz.prog 16 #[PV a, PV b] w fun e w' => GivesB w w' e (a.P = b.P) := by
  have b1 := below_new w (.cells (PC a) 26)
  have b2 := below_new (w.alloc (.cells (PC a) 26)) (.cells (PC b) 26)
  have p2 := pbox_new (w.alloc (.cells (PC a) 26)) b
  rw [World.size_alloc] at p2
  have HPA := hide ((pbox_new w a).below b2)
  have HPB := hide p2
  have HBK := hide (b1.trans (b2.mono b1.size))
  have HSA := hide (hA.below HBK.out)
  have HSB := hide (hB.below HBK.out)
  obtain ⟨wk, hwk⟩ : ∃ wk, (w.alloc (.cells (PC a) 26)).alloc (.cells (PC b) 26) = wk := ⟨_, rfl⟩
  rw [hwk] at HPA HPB HBK HSA HSB
  obtain ⟨a0, a1⟩ := HPA.out.nums
  obtain ⟨c0, c1⟩ := HPB.out.nums
  have HVA := hide HSA.out.vec
  have HVB := hide HSB.out.vec
  have HCA := hide HSA.out.cloud
  have HCB := hide HSB.out.cloud
  have g1 := hA.big
  have g2 := hA.cloud.big
  have g3 := hB.big
  have g4 := hB.cloud.big
  clear b1 b2 p2 hA hB HSA HSB
  obtain ⟨avo, avn, avc, aco, acn, acc, aP⟩ := a
  obtain ⟨bvo, bvn, bvc, bco, bcn, bcc, bP⟩ := b
  dsimp only at a0 a1 c0 c1 HVA HVB HCA HCB g1 g2 g3 g4 ⊢
  have HLA : Hid (aP.vec.length = avn) := HVA.out.1
  have HLB : Hid (bP.vec.length = bvn) := HVB.out.1
  have HKA := hide HCA.out.len
  have HKB := hide HCB.out.len
  by_cases hv : avn = bvn
  · by_cases hc : acn = bcn
    · subst hv hc
      go_enter Tryz.func16, Tryz.ntmps16
      go_wp2_with fail
      clear hwk
      go_loopw [5] (fun i wr => ∃ k : Nat, k ≤ avn ∧ i = .int .i64 k ∧ Hid (aP.vec.take k = bP.vec.take k) ∧ Hid (Below wk.heap.size wk wr)) (fun i _ => avn - (intOf i).toNat)
      case atStart => exact ⟨0, Nat.zero_le _, rfl, rfl, Below.refl _ _⟩
      case round =>
        obtain ⟨k, hk, rfl, HT, HB⟩ := hrel
        rename World => w6
        have a0' := (HB.out.cell (World.block_lt_of_cell? _ _ a0)).trans a0
        have c0' := (HB.out.cell (World.block_lt_of_cell? _ _ c0)).trans c0
        by_cases hlt : k < avn
        · obtain ⟨ad, rfl, q1⟩ := vsrc_at (HVA.out.below HB.out) k hlt
          obtain ⟨bd, rfl, q2⟩ := vsrc_at (HVB.out.below HB.out) k hlt
          have t1 := hide (take_snocI aP.vec k (by rw [HLA.out]; exact hlt))
          have t2 := hide (take_snocI bP.vec k (by rw [HLB.out]; exact hlt))
          obtain ⟨x, Hx⟩ : ∃ x, Hid (aP.vec.getD k 0 = x) := ⟨_, rfl⟩
          obtain ⟨y, Hy⟩ : ∃ y, Hid (bP.vec.getD k 0 = y) := ⟨_, rfl⟩
          rw [Hx.out] at q1 t1
          rw [Hy.out] at q2 t2
          have r1 := cell_regrown a0'
          have r2 := cell_regrown c0'
          have r3 := cell_regrown q1
          have r4 := cell_regrown q2
          clear q1 q2
          by_cases he : x = y
          · have HE := hide he
            have he' : (x != y) = false := by simp [he]
            clear he
            go_wp2_with fail
            refine wp_region_quiet_below (by kernel_rfl) (by kernel_rfl) ?_
            repeat (with_reducible (refine wpQuiet_step ?_); intro K hK; go_simp; (try rw [if_neg (by unfold undef; simp)]); first | (with_reducible (refine hK _ ?_); clear hK K) | (apply Exists.intro; refine ⟨fun _ => ?_, hK _ ?_⟩; (fail); clear hK K))
            with_reducible (refine wpQuiet_nil ?_)
            intro w7 hw'
            obtain ⟨⟨dq, osq⟩, hw''⟩ := hw'
            have b7 : Below w6.heap.size w6 w7 := by rw [hw'']; exact below_regrown w6 dq osq
            have HB7 := hide (HB.out.trans (b7.mono HB.out.size))
            clear hw'' dq osq b7
            clear r1 r2 r3 r4
            go_wp2_with fail
            go_roundw
            case rel => exact ⟨k + 1, by omega, by go_num, by show _ = _; rw [t1.out, t2.out, HT.out, HE.out], HB7.out⟩
            case measure => simp [intOf]; omega
          · have he' : (x != y) = true := by simp [he]
            have HNO : Hid (¬ aP = bP) := fun h => he (by rw [← Hx.out, ← Hy.out, h])
            clear he
            go_wp2_with fail
            refine wp_region_quiet_below (by kernel_rfl) (by kernel_rfl) ?_
            repeat (with_reducible (refine wpQuiet_step ?_); intro K hK; go_simp; (try rw [if_neg (by unfold undef; simp)]); first | (with_reducible (refine hK _ ?_); clear hK K) | (apply Exists.intro; refine ⟨fun _ => ?_, hK _ ?_⟩; (fail); clear hK K))
            with_reducible (refine wpQuiet_nil ?_)
            intro w7 hw'
            obtain ⟨⟨dq, osq⟩, hw''⟩ := hw'
            have b7 : Below w6.heap.size w6 w7 := by rw [hw'']; exact below_regrown w6 dq osq
            have HB7 := hide (HB.out.trans (b7.mono HB.out.size))
            clear hw'' dq osq b7
            clear r1 r2 r3 r4
            have HBE := hide (HBK.out.trans (HB7.out.mono HBK.out.size))
            go_wp2_with fail
            go_ret
            exact ⟨false, rfl, ⟨(fun h => by cases h), fun h => absurd h HNO.out⟩, HBE.out⟩
        · obtain rfl : k = avn := by omega
          have HVE : Hid (aP.vec = bP.vec) := by
            show _ = _
            have h := HT.out
            rw [List.take_of_length_le (by rw [HLA.out]; exact Nat.le_refl _), List.take_of_length_le (by rw [HLB.out]; exact Nat.le_refl _)] at h
            exact h
          go_wp2_with fail
          go_loopw [6] (fun i wr => ∃ k : Nat, k ≤ acn ∧ i = .int .i64 k ∧ Hid (aP.cloud.take k = bP.cloud.take k) ∧ Hid (Below wk.heap.size wk wr)) (fun i _ => acn - (intOf i).toNat)
          case atStart => exact ⟨0, Nat.zero_le _, rfl, rfl, HB.out⟩
          case round =>
            obtain ⟨j, hj, rfl, HT, HB⟩ := hrel
            rename World => w6
            have a1' := (HB.out.cell (World.block_lt_of_cell? _ _ a1)).trans a1
            have c1' := (HB.out.cell (World.block_lt_of_cell? _ _ c1)).trans c1
            by_cases hlt : j < acn
            · obtain ⟨ad, rfl, q1⟩ := (HCA.out.below HB.out).at j hlt
              obtain ⟨bd, rfl, q2⟩ := (HCB.out.below HB.out).at j hlt
              have t1 := hide (take_snocS aP.cloud j (by rw [HKA.out]; exact hlt))
              have t2 := hide (take_snocS bP.cloud j (by rw [HKB.out]; exact hlt))
              obtain ⟨x, Hx⟩ : ∃ x, Hid (aP.cloud.getD j sn0 = x) := ⟨_, rfl⟩
              obtain ⟨y, Hy⟩ : ∃ y, Hid (bP.cloud.getD j sn0 = y) := ⟨_, rfl⟩
              rw [Hx.out] at q1 t1
              rw [Hy.out] at q2 t2
              have r1 := cell_regrown a1'
              have r2 := cell_regrown c1'
              have r3 : ∀ d os, (ldS (.pointer (some (ad.add (j * 3))))).run Tryz.prog (Sort.grow (redrawn w6 d) os) = .ok (SV x) (Sort.grow (redrawn w6 d) os) := fun d os => run_ldS (q1.on (below_regrown w6 d os))
              have r4 : ∀ d os, (ldS (.pointer (some (bd.add (j * 3))))).run Tryz.prog (Sort.grow (redrawn w6 d) os) = .ok (SV y) (Sort.grow (redrawn w6 d) os) := fun d os => run_ldS (q2.on (below_regrown w6 d os))
              clear q1 q2
              obtain ⟨z, hz⟩ : ∃ z, eqS x y = z := ⟨_, rfl⟩
              have HZ : Hid (z = true ↔ x = y) := by rw [← hz]; exact eqS_iff x y
              cases z with
              | true =>
                have HXY := hide (HZ.out.1 rfl)
                clear HZ
                go_wp2_with fail
                refine wp_region_quiet_below (by kernel_rfl) (by kernel_rfl) ?_
                repeat (with_reducible (refine wpQuiet_step ?_); intro K hK; go_simp; (try rw [if_neg (by unfold undef; simp)]); first | (with_reducible (refine hK _ ?_); clear hK K) | (apply Exists.intro; refine ⟨fun _ => ?_, hK _ ?_⟩; (fail); clear hK K))
                with_reducible (refine wpQuiet_nil ?_)
                intro w7 hw'
                obtain ⟨⟨dq, osq⟩, hw''⟩ := hw'
                have b7 : Below w6.heap.size w6 w7 := by rw [hw'']; exact below_regrown w6 dq osq
                have HB7 := hide (HB.out.trans (b7.mono HB.out.size))
                clear hw'' dq osq b7
                clear r1 r2 r3 r4
                go_wp2_with fail
                go_roundw
                case rel => exact ⟨j + 1, by omega, by go_num, by show _ = _; rw [t1.out, t2.out, HT.out, HXY.out], HB7.out⟩
                case measure => simp [intOf]; omega
              | false =>
                have HNO : Hid (¬ aP = bP) := fun h => by
                  have := HZ.out.2 (by rw [← Hx.out, ← Hy.out, h])
                  cases this
                go_wp2_with fail
                refine wp_region_quiet_below (by kernel_rfl) (by kernel_rfl) ?_
                repeat (with_reducible (refine wpQuiet_step ?_); intro K hK; go_simp; (try rw [if_neg (by unfold undef; simp)]); first | (with_reducible (refine hK _ ?_); clear hK K) | (apply Exists.intro; refine ⟨fun _ => ?_, hK _ ?_⟩; (fail); clear hK K))
                with_reducible (refine wpQuiet_nil ?_)
                intro w7 hw'
                obtain ⟨⟨dq, osq⟩, hw''⟩ := hw'
                have b7 : Below w6.heap.size w6 w7 := by rw [hw'']; exact below_regrown w6 dq osq
                have HB7 := hide (HB.out.trans (b7.mono HB.out.size))
                clear hw'' dq osq b7
                clear r1 r2 r3 r4
                have HBE := hide (HBK.out.trans (HB7.out.mono HBK.out.size))
                go_wp2_with fail
                go_ret
                exact ⟨false, rfl, ⟨(fun h => by cases h), fun h => absurd h HNO.out⟩, HBE.out⟩
            · obtain rfl : j = acn := by omega
              have HCE : Hid (aP.cloud = bP.cloud) := by
                show _ = _
                have h := HT.out
                rw [List.take_of_length_le (by rw [HKA.out]; exact Nat.le_refl _), List.take_of_length_le (by rw [HKB.out]; exact Nat.le_refl _)] at h
                exact h
              have HBE := hide (HBK.out.trans (HB.out.mono HBK.out.size))
              go_wp2_with fail
              go_ret
              exact ⟨true, rfl, ⟨fun _ => by obtain ⟨v1, c1⟩ := aP; obtain ⟨v2, c2⟩ := bP; have e1 : v1 = v2 := HVE.out; have e2 : c1 = c2 := HCE.out; rw [e1, e2], fun _ => rfl⟩, HBE.out⟩
    · have d1 : ((avn : Int) != (bvn : Int)) = false := by simp [hv]
      have d2 : ((acn : Int) != (bcn : Int)) = true := by simp; omega
      have HNO : Hid (¬ aP = bP) := fun h => hc (by rw [← HKA.out, ← HKB.out, h])
      clear hv hc
      go_enter Tryz.func16, Tryz.ntmps16
      go_wp2_with fail
      go_ret
      exact ⟨false, rfl, ⟨(fun h => by cases h), fun h => absurd h HNO.out⟩, HBK.out⟩
  · have d1 : ((avn : Int) != (bvn : Int)) = true := by simp; omega
    have HNO : Hid (¬ aP = bP) := fun h => hv (by rw [← HLA.out, ← HLB.out, h])
    clear hv
    go_enter Tryz.func16, Tryz.ntmps16
    go_wp2_with fail
    go_ret
    exact ⟨false, rfl, ⟨(fun h => by cases h), fun h => absurd h HNO.out⟩, HBK.out⟩
end Go.Proofs.YtooinnhjeloocaaGreat
