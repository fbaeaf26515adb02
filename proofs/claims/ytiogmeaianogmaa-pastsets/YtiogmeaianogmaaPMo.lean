/- Meet, Minus, Order of pasts: their contracts. -/
import Derived.Test.YtiogmeaianogmaaPMm
import Derived.Test.YtiogmeaianogmaaRWo
import Derived.Deep.RegionHeld3
namespace Go.Proofs.Ytiogmeaianogmaa
open Go.RowKit
attribute [local go_sem ↓] ldP_eq stP_eq ldA_eq stA_eq
attribute [local go_sem] zeros_SA cells_SAv zero_PC cells_PV fold_PC PC_size fold_PC1

attribute [local go_sem] zeros_sl
def ordv (x y : Bool) : Int := if x then (if y then 0 else 1) else (if y then 2 else 3)
def OrdF (A B : List Rn) (k : Int) : Prop := ∃ x y : Bool, Wth A B x ∧ Wth B A y ∧ k = ordv x y
theorem orderF_any (ao bo : Option Addr) (n cap m cap' : Nat) (A B : List Rn) (w : World) (hS : RSrc w ao n cap A) (hR : RSrc w bo m cap' B) :
    Calls Try.prog 45 #[.slice ao n cap, .slice bo m cap'] w fun e w' => ∃ k, e = .returned (.int .i64 k) ∧ OrdF A B k ∧ Below w.heap.size w w' := by
  have HS := hide hS
  have HR := hide hR
  clear hS hR
  go_enter Try.func45, Try.ntmps45
  go_wp2_with fail
  refine (within_any ao bo n cap m cap' A B _ HS.out HR.out).mono ?_
  rintro e w1 ⟨x, rfl, hx, b1⟩
  have HX := hide hx
  have HB1 := hide b1
  clear hx b1
  go_wp2_with fail
  refine (within_any bo ao m cap' n cap B A _ (HR.out.below HB1.out) (HS.out.below HB1.out)).mono ?_
  rintro e w2 ⟨y, rfl, hy, b2⟩
  have HF : Hid (OrdF A B (ordv x y)) := ⟨x, y, HX.out, hy, rfl⟩
  have HB2 := hide (HB1.out.trans (b2.mono HB1.out.size))
  clear hy b2
  cases x <;> cases y <;> (go_wp2_with fail; go_ret; exact ⟨_, rfl, HF.out, HB2.out⟩)
/-- how the pasts stand to one another -/
def OrdP (A B : Nat → List Rn) (k : Nat) (x y : Bool) : Prop := (x = true ↔ ∀ r, r < k → ∀ n, mem (A r) n → mem (B r) n) ∧ (y = true ↔ ∀ r, r < k → ∀ n, mem (B r) n → mem (A r) n)
theorem or_ordv (x y x' y' : Bool) : bits BinOp.or IntKind.i64 (ordv x y) (ordv x' y') = ordv (x && x') (y && y') := by
  cases x <;> cases y <;> cases x' <;> cases y' <;> rfl
theorem all_step {A B : Nat → List Rn} {k : Nat} {x x' : Bool} (h : x = true ↔ ∀ r, r < k → ∀ n, mem (A r) n → mem (B r) n) (h' : x' = true ↔ ∀ n, mem (A k) n → mem (B k) n) : (x && x') = true ↔ ∀ r, r < k + 1 → ∀ n, mem (A r) n → mem (B r) n := by
  rw [Bool.and_eq_true, h, h']
  constructor
  · rintro ⟨h1, h2⟩ r hr
    by_cases e : r = k
    · subst e; exact h2
    · exact h1 r (by omega)
  · exact fun h => ⟨fun r hr => h r (by omega), h k (by omega)⟩
set_option maxRecDepth 100000 in
set_option maxHeartbeats 4000000 in
theorem pastOrder_any (a b : Pv) (w : World) (hA : PSrc w a) (hB : PSrc w b) :
    Calls Try.prog 17 #[PV a, PV b] w fun e w' => ∃ x y, e = .returned (.int .i64 (ordv x y)) ∧ OrdP (runsAt a.P) (runsAt b.P) 16 x y ∧ Below w.heap.size w w' := by
  have b1 := below_new w (.cells (PC a) 25)
  have b2 := below_new (w.alloc (.cells (PC a) 25)) (.cells (PC b) 25)
  have p2 := pbox_new (w.alloc (.cells (PC a) 25)) b
  rw [World.size_alloc] at p2
  have HPA := hide ((pbox_new w a).below b2)
  have HPB := hide p2
  have HBK := hide (b1.trans (b2.mono b1.size))
  have HWA := hide (wt_one hA)
  have HWB := hide (wt_one hB)
  have HSA := hide (hA.below HBK.out)
  have HSB := hide (hB.below HBK.out)
  have HZK : Hid (((w.alloc (.cells (PC a) 25)).alloc (.cells (PC b) 25)).heap.size = w.heap.size + 2) := by show _ = _; simp
  clear hA hB b1 b2 p2
  obtain ⟨wk, Hwk⟩ : ∃ wk, Hid (((w.alloc (.cells (PC a) 25)).alloc (.cells (PC b) 25)) = wk) := ⟨_, rfl⟩
  rw [Hwk.out] at HPA HPB HBK HSA HSB HZK
  go_enter Try.func17, Try.ntmps17
  go_wp2_with fail
  rw [Hwk.out]
  clear Hwk
  refine wp_region_inv (by kernel_rfl) (fun l x W => ∃ va xa ca vb xb cb ba bb, x = { tmps := #[PV a, PV b, ptr w.heap.size, ptr (w.heap.size + 1), Value.int .i64 0, ba, bb, undef, undef, va, xa, ca, vb, xb, cb, undef, undef, undef, undef, undef, undef, undef, undef, undef, undef, undef, undef, undef, undef], defers := [] } ∧ TwoI wk a b l W va xa ca vb xb cb ba bb) ⟨undef, undef, undef, undef, undef, undef, undef, undef, rfl, TwoI.start wk a b _ _ _ _ _ _ _ _⟩ ?_ ?_ ?_
  · rintro l x W ⟨va, xa, ca, vb, xb, cb, ba, bb, rfl, T⟩
    exact T.sz
  · rintro l x W ⟨va, xa, ca, vb, xb, cb, ba, bb, rfl, T⟩ i hi
    obtain ⟨hi1, hi2, hi3⟩ := ready_mem hi
    have hi4 := no_true hi2
    have hc : i = 0 ∨ i = 1 ∨ i = 2 ∨ i = 3 ∨ i = 4 ∨ i = 5 ∨ i = 6 ∨ i = 7 ∨ i = 8 ∨ i = 9 := by have h : i < 10 := hi1; omega
    have HT := hide T
    rcases hc with rfl | rfl | rfl | rfl | rfl | rfl | rfl | rfl | rfl | rfl
    · have l1 := run_ldP (HPA.out.below T.b).at
      clear T
      clear hi hi1 hi2 hi3 hi4
      refine wpOp_step (o := { dst := some 9, op := Op.load 25 (Operand.tmp 2), type := 25, pos := "sets.go:42", after := #[], guard := none }) rfl (fun K hK => ?_)
      go_simp
      exact hK _ _ ⟨PV a, xa, ca, vb, xb, cb, ba, bb, rfl, HT.out.s0⟩
    · have d0 := hi3 _ rfl { on := 0, ground := Ground.data } (by simp) rfl
      obtain rfl := T.h0 d0
      clear T d0
      clear hi hi1 hi2 hi3 hi4
      refine wpOp_step (o := { dst := some 10, op := Op.buildSlice 30 1 #[(0, Operand.tmp 9)], type := 30, pos := "sets.go:42", after := #[{ on := 0, ground := Ground.data }], guard := none }) rfl (fun K hK => ?_)
      go_simp
      exact hK _ _ ⟨_, .slice (some ⟨W.heap.size, 0, none⟩) 1 1, ca, vb, xb, cb, ba, bb, rfl, HT.out.s1 (HSA.out.below HT.out.b)⟩
    · have d1 := hi3 _ rfl { on := 1, ground := Ground.data } (by simp) rfl
      have n8 : l.getD 8 false = false := by
        cases e : l.getD 8 false with
        | false => rfl
        | true => have := HT.out.c8 e; simp [hi4] at this
      obtain ⟨g, rfl, R⟩ := T.h1 d1 n8
      have HR := hide R
      have HN8 := hide n8
      clear T d1 R n8
      clear hi hi1 hi2 hi3 hi4
      refine wpOp_step (o := { dst := some 11, op := Op.call { callee := Callee.value (Operand.func 34), args := #[Operand.tmp 10], argTypes := #[30] }, type := 54, pos := "sets.go:42", after := #[{ on := 1, ground := Ground.data }], guard := none }) rfl (fun K hK => ?_)
      go_simp
      go_wp2_with fail
      refine (setsOf_any _ 1 1 [a] _ HR.out HWA.out (by omega)).mono ?_
      rintro e w' ⟨F, rfl, RF, bF⟩
      exact hK _ _ ⟨va, _, SAv F, vb, xb, cb, ba, bb, rfl, HT.out.s2 HN8.out RF bF⟩
    · have l1 := run_ldP (HPB.out.below T.b).at
      clear T
      clear hi hi1 hi2 hi3 hi4
      refine wpOp_step (o := { dst := some 12, op := Op.load 25 (Operand.tmp 3), type := 25, pos := "sets.go:42", after := #[], guard := none }) rfl (fun K hK => ?_)
      go_simp
      exact hK _ _ ⟨va, xa, ca, PV b, xb, cb, ba, bb, rfl, HT.out.s3⟩
    · have d3 := hi3 _ rfl { on := 3, ground := Ground.data } (by simp) rfl
      obtain rfl := T.h3 d3
      clear T d3
      clear hi hi1 hi2 hi3 hi4
      refine wpOp_step (o := { dst := some 13, op := Op.buildSlice 30 1 #[(0, Operand.tmp 12)], type := 30, pos := "sets.go:42", after := #[{ on := 3, ground := Ground.data }], guard := none }) rfl (fun K hK => ?_)
      go_simp
      exact hK _ _ ⟨va, xa, ca, _, .slice (some ⟨W.heap.size, 0, none⟩) 1 1, cb, ba, bb, rfl, HT.out.s4 (HSB.out.below HT.out.b)⟩
    · have d4 := hi3 _ rfl { on := 4, ground := Ground.data } (by simp) rfl
      have d2 := hi3 _ rfl { on := 2, ground := Ground.chain } (by simp) rfl
      have n8 : l.getD 8 false = false := by
        cases e : l.getD 8 false with
        | false => rfl
        | true => have := HT.out.c8 e; simp [hi4] at this
      have n9 : l.getD 9 false = false := by
        cases e : l.getD 9 false with
        | false => rfl
        | true => have := HT.out.c9 e; simp [hi4] at this
      obtain ⟨g, rfl, R⟩ := T.h4 d4 n8
      have HR := hide R
      have HN9 := hide n9
      clear T d4 d2 R n8 n9
      clear hi hi1 hi2 hi3 hi4
      refine wpOp_step (o := { dst := some 14, op := Op.call { callee := Callee.value (Operand.func 34), args := #[Operand.tmp 13], argTypes := #[30] }, type := 54, pos := "sets.go:42", after := #[{ on := 4, ground := Ground.data }, { on := 2, ground := Ground.chain }], guard := none }) rfl (fun K hK => ?_)
      go_simp
      go_wp2_with fail
      refine (setsOf_any _ 1 1 [b] _ HR.out HWB.out (by omega)).mono ?_
      rintro e w' ⟨F, rfl, RF, bF⟩
      exact hK _ _ ⟨va, xa, ca, vb, _, SAv F, ba, bb, rfl, HT.out.s5 HN9.out RF bF⟩
    · have n8 : l.getD 8 false = false := by
        cases e : l.getD 8 false with
        | false => rfl
        | true => have := HT.out.c8 e; simp [hi4] at this
      have HN8 := hide n8
      clear T n8
      clear hi hi1 hi2 hi3 hi4
      refine wpOp_step (o := { dst := some 5, op := Op.alloc 54, type := 0, pos := "sets.go:42", after := #[], guard := none }) rfl (fun K hK => ?_)
      go_simp
      exact hK _ _ ⟨va, xa, ca, vb, xb, cb, ptr W.heap.size, bb, rfl, HT.out.s6 HN8.out⟩
    · have n9 : l.getD 9 false = false := by
        cases e : l.getD 9 false with
        | false => rfl
        | true => have := HT.out.c9 e; simp [hi4] at this
      have HN9 := hide n9
      clear T n9
      clear hi hi1 hi2 hi3 hi4
      refine wpOp_step (o := { dst := some 6, op := Op.alloc 54, type := 0, pos := "sets.go:42", after := #[], guard := none }) rfl (fun K hK => ?_)
      go_simp
      exact hK _ _ ⟨va, xa, ca, vb, xb, cb, ba, ptr W.heap.size, rfl, HT.out.s7 HN9.out⟩
    · have d2 := hi3 _ rfl { on := 2, ground := Ground.data } (by simp) rfl
      have d5 := hi3 _ rfl { on := 5, ground := Ground.chain } (by simp) rfl
      have d6 := hi3 _ rfl { on := 6, ground := Ground.data } (by simp) rfl
      have d7 := hi3 _ rfl { on := 7, ground := Ground.phase } (by simp) rfl
      obtain ⟨F, g, rfl, rfl, ST, T2⟩ := T.s8 d2 d5 d6 d7 hi4
      have s1 := run_stA (F' := F) ST
      have HT2 := hide T2
      clear T T2 ST d2 d5 d6 d7
      clear hi hi1 hi2 hi3 hi4
      refine wpOp_step (o := { dst := none, op := Op.store 54 (Operand.tmp 5) (Operand.tmp 11), type := 0, pos := "sets.go:42", after := #[{ on := 6, ground := Ground.data }, { on := 2, ground := Ground.data }, { on := 5, ground := Ground.chain }, { on := 0, ground := Ground.phase }, { on := 1, ground := Ground.phase }, { on := 2, ground := Ground.phase }, { on := 3, ground := Ground.textOnly Departure.lateStores }, { on := 4, ground := Ground.textOnly Departure.lateStores }, { on := 5, ground := Ground.textOnly Departure.lateStoresUnsure }, { on := 6, ground := Ground.phase }, { on := 7, ground := Ground.phase }], guard := none }) rfl (fun K hK => ?_)
      go_simp
      exact hK _ _ ⟨va, xa, _, vb, xb, cb, _, bb, rfl, HT2.out⟩
    · have d5 := hi3 _ rfl { on := 5, ground := Ground.data } (by simp) rfl
      have d7 := hi3 _ rfl { on := 7, ground := Ground.data } (by simp) rfl
      have d8 := hi3 _ rfl { on := 8, ground := Ground.chain } (by simp) rfl
      obtain ⟨F, g, rfl, rfl, ST, T2⟩ := T.s9 d5 d7 d8 hi4
      have s1 := run_stA (F' := F) ST
      have HT2 := hide T2
      clear T T2 ST d5 d7 d8
      clear hi hi1 hi2 hi3 hi4
      refine wpOp_step (o := { dst := none, op := Op.store 54 (Operand.tmp 6) (Operand.tmp 14), type := 0, pos := "sets.go:42", after := #[{ on := 7, ground := Ground.data }, { on := 5, ground := Ground.data }, { on := 8, ground := Ground.chain }, { on := 0, ground := Ground.phase }, { on := 1, ground := Ground.phase }, { on := 2, ground := Ground.phase }, { on := 3, ground := Ground.phase }, { on := 4, ground := Ground.phase }, { on := 5, ground := Ground.phase }, { on := 6, ground := Ground.phase }, { on := 7, ground := Ground.phase }, { on := 8, ground := Ground.phase }], guard := none }) rfl (fun K hK => ?_)
      go_simp
      exact hK _ _ ⟨va, xa, ca, vb, xb, _, ba, _, rfl, HT2.out⟩
  · rintro l x W ⟨va, xa, ca, vb, xb, cb, ba, bb, rfl, T⟩ hnil
    obtain ⟨F, G, g, g', rfl, rfl, rfl, rfl, rfl, rfl, hgg, hg1, hg2, hs1, hs2, hr1, hr2, hf1, hf2, hbw⟩ := T.all (fun i hi => ready_done (by kernel_rfl) T.sz hnil i hi)
    have HGG := hide hgg
    have HG1 := hide hg1
    have HG2 := hide hg2
    have HS1 := hide hs1
    have HS2 := hide hs2
    have HR1 := hide hr1
    have HR2 := hide hr2
    have HF1 := hide hf1
    have HF2 := hide hf2
    have HBW := hide hbw
    clear T hnil hgg hg1 hg2 hs1 hs2 hr1 hr2 hf1 hf2 hbw
    rename World => w5
    have HB5 := hide (HBK.out.trans (HBW.out.mono HBK.out.size))
    go_wp2_with fail
    go_loopw [7, 15] (fun o i wr => ∃ (k : Nat) (x y : Bool), k ≤ 16 ∧ o = .int .i64 (ordv x y) ∧ i = .int .i64 k ∧ Hid (OrdP (runsAt a.P) (runsAt b.P) k x y) ∧ Hid (Below w5.heap.size w5 wr)) (fun _ i _ => 16 - (intOf i).toNat)
    case atStart => exact ⟨0, true, true, Nat.zero_le _, rfl, rfl, ⟨⟨fun _ r h => by omega, fun _ => rfl⟩, ⟨fun _ r h => by omega, fun _ => rfl⟩⟩, Below.refl _ _⟩
    case round =>
      obtain ⟨k, x, y, hk, rfl, rfl, HM, HB⟩ := hrel
      rename World => w6
      have HBB := hide (HB5.out.trans (HB.out.mono HB5.out.size))
      by_cases hlt : k < 16
      · have k1 := cell_regrown ((HS1.out.below HB.out).cell k hlt)
        have k2 := cell_regrown ((HS2.out.below HB.out).cell k hlt)
        have R1 := (HR1.out.src k hlt).below HB.out
        have R2 := (HR2.out.src k hlt).below HB.out
        have e1 := HR1.out.eq k hlt
        have e2 := HR2.out.eq k hlt
        rw [runsOf_one] at e1 e2
        rw [e1] at R1
        rw [e2] at R2
        clear e1 e2
        obtain ⟨sa, sn, sc, hf⟩ : ∃ sa sn sc, (F k).ao = sa ∧ (F k).n = sn ∧ (F k).cap = sc := ⟨_, _, _, rfl, rfl, rfl⟩
        obtain ⟨ta, tn, tc, hg⟩ : ∃ ta tn tc, (G k).ao = ta ∧ (G k).n = tn ∧ (G k).cap = tc := ⟨_, _, _, rfl, rfl, rfl⟩
        rw [hf.1, hf.2.1, hf.2.2] at k1 R1
        rw [hg.1, hg.2.1, hg.2.2] at k2 R2
        clear hf hg
        obtain ⟨x', Hx⟩ : ∃ y : Bool, Hid (y = true ↔ ∀ n, mem (runsAt a.P k) n → mem (runsAt b.P k) n) := by
          by_cases h : ∀ n, mem (runsAt a.P k) n → mem (runsAt b.P k) n
          · exact ⟨true, ⟨fun _ => h, fun _ => rfl⟩⟩
          · exact ⟨false, ⟨(fun h' => by cases h'), fun h' => absurd h' h⟩⟩
        obtain ⟨y', Hy⟩ : ∃ y : Bool, Hid (y = true ↔ ∀ n, mem (runsAt b.P k) n → mem (runsAt a.P k) n) := by
          by_cases h : ∀ n, mem (runsAt b.P k) n → mem (runsAt a.P k) n
          · exact ⟨true, ⟨fun _ => h, fun _ => rfl⟩⟩
          · exact ⟨false, ⟨(fun h' => by cases h'), fun h' => absurd h' h⟩⟩
        have zc : ∀ d os, Calls Try.prog 45 #[.slice sa sn sc, .slice ta tn tc] (Sort.grow (redrawn w6 d) os) fun z w'' => z = .returned (.int .i64 (ordv x' y')) ∧ ∃ r : Regrown, w'' = Sort.grow (redrawn w6 r.d) r.os := fun d os => Calls.regrown_of ((orderF_any sa ta sn sc tn tc _ _ _ (R1.below (below_regrown w6 d os)) (R2.below (below_regrown w6 d os))).mono (by
          rintro e w' ⟨z, rfl, ⟨p, q, hp, hq, rfl⟩, b⟩
          have h1 : p = x' := by
            have h1 : p = true ↔ x' = true := Iff.trans hp Hx.out.symm
            cases p <;> cases x' <;> simp_all
          have h2 : q = y' := by
            have h1 : q = true ↔ y' = true := Iff.trans hq Hy.out.symm
            cases q <;> cases y' <;> simp_all
          exact ⟨by rw [h1, h2], b⟩))
        have q0 : (0 : Int) ≤ (k : Int) := by omega
        have q1 : (k : Int) < 16 := by omega
        have HNX : Hid (OrdP (runsAt a.P) (runsAt b.P) (k + 1) (x && x') (y && y')) := ⟨all_step HM.out.1 Hx.out, all_step HM.out.2 Hy.out⟩
        clear R1 R2 Hx Hy
        go_wp2_with fail
        refine wp_region_quiet_below (by kernel_rfl) (by kernel_rfl) ?_
        repeat (with_reducible (refine wpQuiet_step ?_); intro K hK; go_simp; (try rw [if_neg (by unfold undef; simp)]); first | (with_reducible (refine hK _ ?_); clear hK K) | (apply Exists.intro; refine ⟨fun _ => ?_, hK _ ?_⟩; (go_at_call 45; exact zc _ _); clear hK K))
        with_reducible (refine wpQuiet_nil ?_)
        intro w7 hw'
        obtain ⟨⟨dq, osq⟩, hw''⟩ := hw'
        have b7 : Below w6.heap.size w6 w7 := by rw [hw'']; exact below_regrown w6 dq osq
        have HB7 := hide (HB.out.trans (b7.mono HB.out.size))
        clear hw'' dq osq zc k1 k2 b7
        rw [or_ordv]
        go_wp2_with fail
        go_roundw
        case rel => exact ⟨k + 1, x && x', y && y', by omega, rfl, by go_num, HNX.out, HB7.out⟩
        case measure => simp [intOf]; omega
      · obtain rfl : k = 16 := by omega
        go_wp2_with fail
        go_ret
        exact ⟨x, y, rfl, HM.out, HBB.out⟩
end Go.Proofs.Ytiogmeaianogmaa
