/- PWi QCb -/
import Derived.Test.YtbmjiedpaffifaaDg26
import Derived.Test.YtbmjiedpaffifaaDg28
import Derived.Deep.RegionHeld3
import Derived.Test.YtbmjiedpaffifaaDg06
namespace Go.Proofs.Ytbmjiedpaffifaa
open Go.RowKit
attribute [local go_sem ↓] ldP_eq stP_eq ldA_eq stA_eq
attribute [local go_sem] zeros_SA cells_SAv zero_PC cells_PV fold_PC PC_size fold_PC1

theorem zeros_sl : (SA fun _ => sl0) = SA sl00 := rfl
attribute [local go_sem] zeros_sl
set_option maxRecDepth 100000 in
set_option maxHeartbeats 4000000 in
theorem pastWithin_any (a b : Pv) (w : World) (hA : PSrc w a) (hB : PSrc w b) :
    Calls Try.prog 14 #[PV a, PV b] w fun e w' => ∃ x, e = .returned (.bool x) ∧ (x = true ↔ ∀ r, r < 16 → ∀ n, mem (runsAt a.P r) n → mem (runsAt b.P r) n) ∧ Below w.heap.size w w' := by
  have b1 := below_new w (.cells (PC a) 25)
  have b2 := below_new (w.alloc (.cells (PC a) 25)) (.cells (PC b) 25)
  have p2 := pbox_new (w.alloc (.cells (PC a) 25)) b
  rw [World.size_alloc] at p2
  have HPA := hide ((pbox_new w a).below b2)
  have HPB := hide p2
  have HBK := hide (b1.trans (b2.mono b1.size))
  have HWA := hide (wt_one hA)
  have HWB := hide (wt_one hB)
  have HSA := hide (hA.below HBK.out)
  have HSB := hide (hB.below HBK.out)
  have HZK : Hid (((w.alloc (.cells (PC a) 25)).alloc (.cells (PC b) 25)).heap.size = w.heap.size + 2) := by show _ = _; simp
  clear hA hB b1 b2 p2
  obtain ⟨wk, Hwk⟩ : ∃ wk, Hid (((w.alloc (.cells (PC a) 25)).alloc (.cells (PC b) 25)) = wk) := ⟨_, rfl⟩
  rw [Hwk.out] at HPA HPB HBK HSA HSB HZK
  go_enter Try.func14, Try.ntmps14
  go_wp2_with fail
  rw [Hwk.out]
  clear Hwk
  refine wp_region_inv (by kernel_rfl) (fun l x W => ∃ va xa ca vb xb cb ba bb, x = { tmps := #[PV a, PV b, ptr w.heap.size, ptr (w.heap.size + 1), Value.bool false, ba, bb, undef, va, xa, ca, vb, xb, cb, undef, undef, undef, undef, undef, undef, undef, undef, undef, undef, undef, undef], defers := [] } ∧ TwoI wk a b l W va xa ca vb xb cb ba bb) ⟨undef, undef, undef, undef, undef, undef, undef, undef, rfl, TwoI.start wk a b _ _ _ _ _ _ _ _⟩ ?_ ?_ ?_
  · rintro l x W ⟨va, xa, ca, vb, xb, cb, ba, bb, rfl, T⟩
    exact T.sz
  · rintro l x W ⟨va, xa, ca, vb, xb, cb, ba, bb, rfl, T⟩ i hi
    obtain ⟨hi1, hi2, hi3⟩ := ready_mem hi
    have hi4 := no_true hi2
    have hc : i = 0 ∨ i = 1 ∨ i = 2 ∨ i = 3 ∨ i = 4 ∨ i = 5 ∨ i = 6 ∨ i = 7 ∨ i = 8 ∨ i = 9 := by have h : i < 10 := hi1; omega
    have HT := hide T
    rcases hc with rfl | rfl | rfl | rfl | rfl | rfl | rfl | rfl | rfl | rfl
    · have l1 := run_ldP (HPA.out.below T.b).at
      clear T
      clear hi hi1 hi2 hi3 hi4
      refine wpOp_step (o := { dst := some 8, op := Op.load 25 (Operand.tmp 2), type := 25, pos := "sets.go:31", after := #[], guard := none }) rfl (fun K hK => ?_)
      go_simp
      exact hK _ _ ⟨PV a, xa, ca, vb, xb, cb, ba, bb, rfl, HT.out.s0⟩
    · have d0 := hi3 _ rfl { on := 0, ground := Ground.data } (by simp) rfl
      obtain rfl := T.h0 d0
      clear T d0
      clear hi hi1 hi2 hi3 hi4
      refine wpOp_step (o := { dst := some 9, op := Op.buildSlice 30 1 #[(0, Operand.tmp 8)], type := 30, pos := "sets.go:31", after := #[{ on := 0, ground := Ground.data }], guard := none }) rfl (fun K hK => ?_)
      go_simp
      exact hK _ _ ⟨_, .slice (some ⟨W.heap.size, 0, none⟩) 1 1, ca, vb, xb, cb, ba, bb, rfl, HT.out.s1 (HSA.out.below HT.out.b)⟩
    · have d1 := hi3 _ rfl { on := 1, ground := Ground.data } (by simp) rfl
      have n8 : l.getD 8 false = false := by
        cases e : l.getD 8 false with
        | false => rfl
        | true => have := HT.out.c8 e; simp [hi4] at this
      obtain ⟨g, rfl, R⟩ := T.h1 d1 n8
      have HR := hide R
      have HN8 := hide n8
      clear T d1 R n8
      clear hi hi1 hi2 hi3 hi4
      refine wpOp_step (o := { dst := some 10, op := Op.call { callee := Callee.value (Operand.func 27), args := #[Operand.tmp 9], argTypes := #[30] }, type := 58, pos := "sets.go:31", after := #[{ on := 1, ground := Ground.data }], guard := none }) rfl (fun K hK => ?_)
      go_simp
      go_wp2_with fail
      refine (setsOf_any _ 1 1 [a] _ HR.out HWA.out (by omega)).mono ?_
      rintro e w' ⟨F, rfl, RF, bF⟩
      exact hK _ _ ⟨va, _, SAv F, vb, xb, cb, ba, bb, rfl, HT.out.s2 HN8.out RF bF⟩
    · have l1 := run_ldP (HPB.out.below T.b).at
      clear T
      clear hi hi1 hi2 hi3 hi4
      refine wpOp_step (o := { dst := some 11, op := Op.load 25 (Operand.tmp 3), type := 25, pos := "sets.go:31", after := #[], guard := none }) rfl (fun K hK => ?_)
      go_simp
      exact hK _ _ ⟨va, xa, ca, PV b, xb, cb, ba, bb, rfl, HT.out.s3⟩
    · have d3 := hi3 _ rfl { on := 3, ground := Ground.data } (by simp) rfl
      obtain rfl := T.h3 d3
      clear T d3
      clear hi hi1 hi2 hi3 hi4
      refine wpOp_step (o := { dst := some 12, op := Op.buildSlice 30 1 #[(0, Operand.tmp 11)], type := 30, pos := "sets.go:31", after := #[{ on := 3, ground := Ground.data }], guard := none }) rfl (fun K hK => ?_)
      go_simp
      exact hK _ _ ⟨va, xa, ca, _, .slice (some ⟨W.heap.size, 0, none⟩) 1 1, cb, ba, bb, rfl, HT.out.s4 (HSB.out.below HT.out.b)⟩
    · have d4 := hi3 _ rfl { on := 4, ground := Ground.data } (by simp) rfl
      have d2 := hi3 _ rfl { on := 2, ground := Ground.chain } (by simp) rfl
      have n8 : l.getD 8 false = false := by
        cases e : l.getD 8 false with
        | false => rfl
        | true => have := HT.out.c8 e; simp [hi4] at this
      have n9 : l.getD 9 false = false := by
        cases e : l.getD 9 false with
        | false => rfl
        | true => have := HT.out.c9 e; simp [hi4] at this
      obtain ⟨g, rfl, R⟩ := T.h4 d4 n8
      have HR := hide R
      have HN9 := hide n9
      clear T d4 d2 R n8 n9
      clear hi hi1 hi2 hi3 hi4
      refine wpOp_step (o := { dst := some 13, op := Op.call { callee := Callee.value (Operand.func 27), args := #[Operand.tmp 12], argTypes := #[30] }, type := 58, pos := "sets.go:31", after := #[{ on := 4, ground := Ground.data }, { on := 2, ground := Ground.chain }], guard := none }) rfl (fun K hK => ?_)
      go_simp
      go_wp2_with fail
      refine (setsOf_any _ 1 1 [b] _ HR.out HWB.out (by omega)).mono ?_
      rintro e w' ⟨F, rfl, RF, bF⟩
      exact hK _ _ ⟨va, xa, ca, vb, _, SAv F, ba, bb, rfl, HT.out.s5 HN9.out RF bF⟩
    · have n8 : l.getD 8 false = false := by
        cases e : l.getD 8 false with
        | false => rfl
        | true => have := HT.out.c8 e; simp [hi4] at this
      have HN8 := hide n8
      clear T n8
      clear hi hi1 hi2 hi3 hi4
      refine wpOp_step (o := { dst := some 5, op := Op.alloc 58, type := 0, pos := "sets.go:31", after := #[], guard := none }) rfl (fun K hK => ?_)
      go_simp
      exact hK _ _ ⟨va, xa, ca, vb, xb, cb, ptr W.heap.size, bb, rfl, HT.out.s6 HN8.out⟩
    · have n9 : l.getD 9 false = false := by
        cases e : l.getD 9 false with
        | false => rfl
        | true => have := HT.out.c9 e; simp [hi4] at this
      have HN9 := hide n9
      clear T n9
      clear hi hi1 hi2 hi3 hi4
      refine wpOp_step (o := { dst := some 6, op := Op.alloc 58, type := 0, pos := "sets.go:31", after := #[], guard := none }) rfl (fun K hK => ?_)
      go_simp
      exact hK _ _ ⟨va, xa, ca, vb, xb, cb, ba, ptr W.heap.size, rfl, HT.out.s7 HN9.out⟩
    · have d2 := hi3 _ rfl { on := 2, ground := Ground.data } (by simp) rfl
      have d5 := hi3 _ rfl { on := 5, ground := Ground.chain } (by simp) rfl
      have d6 := hi3 _ rfl { on := 6, ground := Ground.data } (by simp) rfl
      have d7 := hi3 _ rfl { on := 7, ground := Ground.phase } (by simp) rfl
      obtain ⟨F, g, rfl, rfl, ST, T2⟩ := T.s8 d2 d5 d6 d7 hi4
      have s1 := run_stA (F' := F) ST
      have HT2 := hide T2
      clear T T2 ST d2 d5 d6 d7
      clear hi hi1 hi2 hi3 hi4
      refine wpOp_step (o := { dst := none, op := Op.store 58 (Operand.tmp 5) (Operand.tmp 10), type := 0, pos := "sets.go:31", after := #[{ on := 6, ground := Ground.data }, { on := 2, ground := Ground.data }, { on := 5, ground := Ground.chain }, { on := 0, ground := Ground.phase }, { on := 1, ground := Ground.phase }, { on := 2, ground := Ground.phase }, { on := 3, ground := Ground.textOnly Departure.lateStores }, { on := 4, ground := Ground.textOnly Departure.lateStores }, { on := 5, ground := Ground.textOnly Departure.lateStoresUnsure }, { on := 6, ground := Ground.phase }, { on := 7, ground := Ground.phase }], guard := none }) rfl (fun K hK => ?_)
      go_simp
      exact hK _ _ ⟨va, xa, _, vb, xb, cb, _, bb, rfl, HT2.out⟩
    · have d5 := hi3 _ rfl { on := 5, ground := Ground.data } (by simp) rfl
      have d7 := hi3 _ rfl { on := 7, ground := Ground.data } (by simp) rfl
      have d8 := hi3 _ rfl { on := 8, ground := Ground.chain } (by simp) rfl
      obtain ⟨F, g, rfl, rfl, ST, T2⟩ := T.s9 d5 d7 d8 hi4
      have s1 := run_stA (F' := F) ST
      have HT2 := hide T2
      clear T T2 ST d5 d7 d8
      clear hi hi1 hi2 hi3 hi4
      refine wpOp_step (o := { dst := none, op := Op.store 58 (Operand.tmp 6) (Operand.tmp 13), type := 0, pos := "sets.go:31", after := #[{ on := 7, ground := Ground.data }, { on := 5, ground := Ground.data }, { on := 8, ground := Ground.chain }, { on := 0, ground := Ground.phase }, { on := 1, ground := Ground.phase }, { on := 2, ground := Ground.phase }, { on := 3, ground := Ground.phase }, { on := 4, ground := Ground.phase }, { on := 5, ground := Ground.phase }, { on := 6, ground := Ground.phase }, { on := 7, ground := Ground.phase }, { on := 8, ground := Ground.phase }], guard := none }) rfl (fun K hK => ?_)
      go_simp
      exact hK _ _ ⟨va, xa, ca, vb, xb, _, ba, _, rfl, HT2.out⟩
  · rintro l x W ⟨va, xa, ca, vb, xb, cb, ba, bb, rfl, T⟩ hnil
    obtain ⟨F, G, g, g', rfl, rfl, rfl, rfl, rfl, rfl, hgg, hg1, hg2, hs1, hs2, hr1, hr2, hf1, hf2, hbw⟩ := T.all (fun i hi => ready_done (by kernel_rfl) T.sz hnil i hi)
    have HGG := hide hgg
    have HG1 := hide hg1
    have HG2 := hide hg2
    have HS1 := hide hs1
    have HS2 := hide hs2
    have HR1 := hide hr1
    have HR2 := hide hr2
    have HF1 := hide hf1
    have HF2 := hide hf2
    have HBW := hide hbw
    clear T hnil hgg hg1 hg2 hs1 hs2 hr1 hr2 hf1 hf2 hbw
    rename World => w5
    have HB5 := hide (HBK.out.trans (HBW.out.mono HBK.out.size))
    go_wp2_with fail
    go_loopw [14] (fun i wr => ∃ k : Nat, k ≤ 16 ∧ i = .int .i64 k ∧ Hid (∀ r, r < k → ∀ n, mem (runsAt a.P r) n → mem (runsAt b.P r) n) ∧ Hid (Below w5.heap.size w5 wr)) (fun i _ => 16 - (intOf i).toNat)
    case atStart => exact ⟨0, Nat.zero_le _, rfl, fun r h => by omega, Below.refl _ _⟩
    case round =>
      obtain ⟨k, hk, rfl, HM, HB⟩ := hrel
      rename World => w6
      have HBB := hide (HB5.out.trans (HB.out.mono HB5.out.size))
      by_cases hlt : k < 16
      · have k1 := cell_regrown ((HS1.out.below HB.out).cell k hlt)
        have k2 := cell_regrown ((HS2.out.below HB.out).cell k hlt)
        have R1 := (HR1.out.src k hlt).below HB.out
        have R2 := (HR2.out.src k hlt).below HB.out
        have e1 := HR1.out.eq k hlt
        have e2 := HR2.out.eq k hlt
        rw [runsOf_one] at e1 e2
        rw [e1] at R1
        rw [e2] at R2
        clear e1 e2
        obtain ⟨sa, sn, sc, hf⟩ : ∃ sa sn sc, (F k).ao = sa ∧ (F k).n = sn ∧ (F k).cap = sc := ⟨_, _, _, rfl, rfl, rfl⟩
        obtain ⟨ta, tn, tc, hg⟩ : ∃ ta tn tc, (G k).ao = ta ∧ (G k).n = tn ∧ (G k).cap = tc := ⟨_, _, _, rfl, rfl, rfl⟩
        rw [hf.1, hf.2.1, hf.2.2] at k1 R1
        rw [hg.1, hg.2.1, hg.2.2] at k2 R2
        clear hf hg
        obtain ⟨y, Hy⟩ : ∃ y : Bool, Hid (y = true ↔ ∀ n, mem (runsAt a.P k) n → mem (runsAt b.P k) n) := by
          by_cases h : ∀ n, mem (runsAt a.P k) n → mem (runsAt b.P k) n
          · exact ⟨true, ⟨fun _ => h, fun _ => rfl⟩⟩
          · exact ⟨false, ⟨(fun h' => by cases h'), fun h' => absurd h' h⟩⟩
        have zc : ∀ d os, Calls Try.prog 36 #[.slice sa sn sc, .slice ta tn tc] (Sort.grow (redrawn w6 d) os) fun x w'' => x = .returned (.bool y) ∧ ∃ r : Regrown, w'' = Sort.grow (redrawn w6 r.d) r.os := fun d os => Calls.regrown_of ((within_any sa ta sn sc tn tc _ _ _ (R1.below (below_regrown w6 d os)) (R2.below (below_regrown w6 d os))).mono (by
          rintro e w' ⟨y', rfl, hy, b⟩
          have : y' = y := by
            have h1 : y' = true ↔ y = true := Iff.trans hy Hy.out.symm
            cases y <;> cases y' <;> simp_all
          exact ⟨by rw [this], b⟩))
        have q0 : (0 : Int) ≤ (k : Int) := by omega
        have q1 : (k : Int) < 16 := by omega
        cases y with
        | true =>
          have HNX : Hid (∀ r, r < k + 1 → ∀ n, mem (runsAt a.P r) n → mem (runsAt b.P r) n) := fun r hr => by
            by_cases e : r = k
            · subst e; exact Hy.out.1 rfl
            · exact HM.out r (by omega)
          clear R1 R2
          go_wp2_with fail
          refine wp_region_quiet_below (by kernel_rfl) (by kernel_rfl) ?_
          repeat (with_reducible (refine wpQuiet_step ?_); intro K hK; go_simp; (try rw [if_neg (by unfold undef; simp)]); first | (with_reducible (refine hK _ ?_); clear hK K) | (apply Exists.intro; refine ⟨fun _ => ?_, hK _ ?_⟩; (go_at_call 36; exact zc _ _); clear hK K))
          with_reducible (refine wpQuiet_nil ?_)
          intro w7 hw'
          obtain ⟨⟨dq, osq⟩, hw''⟩ := hw'
          have b7 : Below w6.heap.size w6 w7 := by rw [hw'']; exact below_regrown w6 dq osq
          have HB7 := hide (HB.out.trans (b7.mono HB.out.size))
          clear hw'' dq osq zc k1 k2 b7
          go_wp2_with fail
          go_roundw
          case rel => exact ⟨k + 1, by omega, by go_num, HNX.out, HB7.out⟩
          case measure => simp [intOf]; omega
        | false =>
          have HNO : Hid (false = true ↔ ∀ r, r < 16 → ∀ n, mem (runsAt a.P r) n → mem (runsAt b.P r) n) := ⟨fun h => (by cases h), fun h => Hy.out.2 (h k hlt)⟩
          clear R1 R2
          go_wp2_with fail
          refine wp_region_quiet_below (by kernel_rfl) (by kernel_rfl) ?_
          repeat (with_reducible (refine wpQuiet_step ?_); intro K hK; go_simp; (try rw [if_neg (by unfold undef; simp)]); first | (with_reducible (refine hK _ ?_); clear hK K) | (apply Exists.intro; refine ⟨fun _ => ?_, hK _ ?_⟩; (go_at_call 36; exact zc _ _); clear hK K))
          with_reducible (refine wpQuiet_nil ?_)
          intro w7 hw'
          obtain ⟨⟨dq, osq⟩, hw''⟩ := hw'
          have b7 : Below w6.heap.size w6 w7 := by rw [hw'']; exact below_regrown w6 dq osq
          have HB7 := hide (HBB.out.trans (b7.mono HBB.out.size))
          clear hw'' dq osq zc k1 k2 b7
          go_wp2_with fail
          go_ret
          exact ⟨false, rfl, HNO.out, HB7.out⟩
      · obtain rfl : k = 16 := by omega
        go_wp2_with fail
        go_ret
        exact ⟨true, rfl, ⟨fun _ => HM.out, fun _ => rfl⟩, HBB.out⟩
end Go.Proofs.Ytbmjiedpaffifaa
namespace Go.Proofs.Ytbmjiedpaffifaa

/-- is the number in, by the turns? -/
def tin (t : List Int) (n : Int) : Bool := decide (cnt t n % 2 = 1)
theorem cnt_cons (x : Int) (t : List Int) (n : Int) : cnt (x :: t) n = (if x ≤ n then 1 else 0) + cnt t n := by
  have : x :: t = [x] ++ t := rfl
  rw [this, cnt_append, cnt_one]
theorem tn_in : ∀ {R : List Rn} {l : Int}, form l R → ∀ x, x ∈ tn R → l ≤ x ∧ x ≤ 1000000001
  | [], _, _, x, h => by cases h
  | r :: t, l, h, x, hx => by
    have h1 := h.1
    have h2 := h.2.1
    have h3 := h.2.2.1
    rcases List.mem_cons.1 hx with e | e
    · subst e; omega
    · rcases List.mem_cons.1 e with e | e
      · subst e; omega
      · have := tn_in h.2.2.2 x e
        omega
theorem tn_rise : ∀ {R : List Rn} {l : Int}, form l R → (tn R).Pairwise (· < ·)
  | [], _, _ => List.Pairwise.nil
  | r :: t, l, h => by
    have h2 := h.2.1
    refine List.pairwise_cons.2 ⟨fun x hx => ?_, List.pairwise_cons.2 ⟨fun x hx => ?_, tn_rise h.2.2.2⟩⟩
    · rcases List.mem_cons.1 hx with e | e
      · subst e; omega
      · have := (tn_in h.2.2.2 x e).1
        omega
    · have := (tn_in h.2.2.2 x hx).1
      omega
theorem tin_tn : ∀ {R : List Rn} {l : Int}, form l R → ∀ n, (tin (tn R) n = true ↔ inR R n)
  | [], _, _, n => by simp [tin, tn, cnt, inR]
  | r :: t, l, h, n => by
    have ih := tin_tn h.2.2.2 n
    have h2 := h.2.1
    have key : inR (r :: t) n ↔ (r.lo ≤ n ∧ n ≤ r.hi) ∨ inR t n := by unfold inR; simp
    rw [key, ← ih]
    unfold tin
    simp only [decide_eq_true_eq]
    show cnt (r.lo :: (r.hi + 1) :: tn t) n % 2 = 1 ↔ _
    rw [cnt_cons, cnt_cons]
    by_cases a1 : r.hi + 1 ≤ n
    · rw [if_pos a1, if_pos (by omega)]
      constructor
      · intro g; exact Or.inr (by omega)
      · rintro (g | g) <;> omega
    · have hz : cnt (tn t) n = 0 := cnt_none (fun x hx => by have := (tn_in h.2.2.2 x hx).1; omega)
      rw [if_neg a1, hz]
      by_cases a2 : r.lo ≤ n
      · rw [if_pos a2]
        exact ⟨fun _ => Or.inl ⟨a2, by omega⟩, fun _ => rfl⟩
      · rw [if_neg a2]
        constructor
        · intro g; omega
        · rintro (g | g) <;> omega
/-- rising turns, an even number of them, are those of a form -/
theorem tn_of : ∀ (k : Nat) {t : List Int} {l : Int}, t.length = 2 * k → t.Pairwise (· < ·) → (∀ x, x ∈ t → l ≤ x ∧ x ≤ 1000000001) → ∃ R, form l R ∧ tn R = t
  | 0, t, l, he, _, _ => by
    obtain rfl : t = [] := List.eq_nil_of_length_eq_zero (by omega)
    exact ⟨[], trivial, rfl⟩
  | k + 1, [], l, he, _, _ => by simp at he
  | k + 1, [a], l, he, _, _ => by simp at he; omega
  | k + 1, a :: b :: t, l, he, hp, hb => by
    obtain ⟨p1, p2⟩ := List.pairwise_cons.1 hp
    obtain ⟨p3, p4⟩ := List.pairwise_cons.1 p2
    have hab := p1 b List.mem_cons_self
    have ha := hb a List.mem_cons_self
    have hbb := hb b (List.mem_cons_of_mem _ List.mem_cons_self)
    obtain ⟨R, hR, e⟩ := tn_of k (t := t) (l := b + 1) (by simp at he; omega) p4 (fun x hx => ⟨by have := p3 x hx; omega, (hb x (List.mem_cons_of_mem _ (List.mem_cons_of_mem _ hx))).2⟩)
    refine ⟨⟨a, b - 1⟩ :: R, ⟨ha.1, by show a ≤ b - 1; omega, by show b - 1 ≤ 1000000000; omega, ?_⟩, ?_⟩
    · have e2 : b - 1 + 2 = b + 1 := by omega
      show form (b - 1 + 2) R
      rw [e2]; exact hR
    · show a :: (b - 1 + 1) :: tn R = _
      rw [e, Int.sub_add_cancel]
/-- the rule: 1: in both; 2: in the first alone -/
def rul (k : Int) (x y : Bool) : Bool := (k == 1 && x && y) || (k == 2 && x && !y)
theorem rul_ff (k : Int) (y : Bool) : rul k false y = false := by simp [rul]
/-- the walk over both lists of turns, i and j of them behind it -/
structure CbI (k : Int) (A B : List Int) (i j : Nat) (t : List Int) (b : Bool) : Prop where
  hi : i ≤ A.length
  hj : j ≤ B.length
  tr : t.Pairwise (· < ·)
  tl : ∀ x, x ∈ t → x ∈ A.take i ++ B.take j
  lt : ∀ x, x ∈ A.take i ++ B.take j → ∀ y, y ∈ A.drop i ++ B.drop j → x < y
  ev : ∀ n, tin t n = rul k (tin (A.take i) n) (tin (B.take j) n)
  nw : b = decide (t.length % 2 = 1)
theorem CbI.start (k : Int) (A B : List Int) : CbI k A B 0 0 [] false :=
  ⟨Nat.zero_le _, Nat.zero_le _, List.Pairwise.nil, (fun x h => by cases h), (fun x h => by simp at h), fun n => by simp [tin, cnt, rul], rfl⟩
theorem tin_all {L : List Int} {n : Int} (h : ∀ x, x ∈ L → x ≤ n) : tin L n = decide (L.length % 2 = 1) := by unfold tin; rw [cnt_all h]
theorem tin_pre {L M : List Int} {n : Int} (h : ∀ x, x ∈ M → n < x) : tin (L ++ M) n = tin L n := by unfold tin; rw [cnt_append, cnt_none h, Nat.add_zero]
/-- what is taken at a place: i' of the first, j' of the second -/
theorem CbI.step {k : Int} {A B : List Int} {i j i' j' : Nat} {t : List Int} {b : Bool} {at' : Int} (S : CbI k A B i j t b)
    (hA : A.Pairwise (· < ·)) (hB : B.Pairwise (· < ·))
    (ha : (A[i]? = some at' ∧ i' = i + 1) ∨ ((∀ x, A[i]? = some x → at' < x) ∧ i' = i))
    (hb : (B[j]? = some at' ∧ j' = j + 1) ∨ ((∀ x, B[j]? = some x → at' < x) ∧ j' = j))
    (hs : A[i]? = some at' ∨ B[j]? = some at') :
    (rul k (decide (i' % 2 = 1)) (decide (j' % 2 = 1)) = b → CbI k A B i' j' t b) ∧ (rul k (decide (i' % 2 = 1)) (decide (j' % 2 = 1)) ≠ b → CbI k A B i' j' (t ++ [at']) (!b)) := by
  have step1 : ∀ (L : List Int) (u u' : Nat), L.Pairwise (· < ·) → u ≤ L.length → ((L[u]? = some at' ∧ u' = u + 1) ∨ ((∀ x, L[u]? = some x → at' < x) ∧ u' = u)) →
      u' ≤ L.length ∧ (∃ M, L.take u' = L.take u ++ M ∧ ∀ x, x ∈ M → x = at') ∧ (∀ y, y ∈ L.drop u' → at' < y) ∧ (∀ y, y ∈ L.drop u' → y ∈ L.drop u) := by
    intro L u u' hL hu h
    have hdrop : ∀ v x, L[v]? = some x → ∀ y, y ∈ L.drop (v + 1) → x < y := by
      intro v x hx y hy
      have hp : (L.drop v).Pairwise (· < ·) := hL.sublist (List.drop_sublist _ _)
      rw [(take_on' L v x hx).2] at hp
      exact (List.pairwise_cons.1 hp).1 y hy
    rcases h with ⟨h1, rfl⟩ | ⟨h1, rfl⟩
    · have hl := (List.getElem?_eq_some_iff.1 h1).1
      obtain ⟨t1, t2⟩ := take_on' L u at' h1
      exact ⟨hl, ⟨[at'], t1, fun x hx => List.mem_singleton.1 hx⟩, hdrop u at' h1, fun y hy => by rw [t2]; exact List.mem_cons_of_mem _ hy⟩
    · refine ⟨hu, ⟨[], by simp, fun x hx => by cases hx⟩, fun y hy => ?_, fun y hy => hy⟩
      cases hx : L[u']? with
      | none => rw [List.drop_of_length_le (by simpa using hx)] at hy; cases hy
      | some x =>
        have h2 := h1 x hx
        rw [(take_on' L u' x hx).2] at hy
        rcases List.mem_cons.1 hy with e | e
        · omega
        · have := hdrop u' x hx y e
          omega
  obtain ⟨a1, ⟨MA, a2, a3⟩, a4, a5⟩ := step1 A i i' hA S.hi ha
  obtain ⟨b1, ⟨MB, b2, b3⟩, b4, b5⟩ := step1 B j j' hB S.hj hb
  have hat : at' ∈ A.drop i ++ B.drop j := by
    rcases hs with h | h
    · exact List.mem_append_left _ (by rw [(take_on' A i at' h).2]; exact List.mem_cons_self)
    · exact List.mem_append_right _ (by rw [(take_on' B j at' h).2]; exact List.mem_cons_self)
  have hatk : at' ∈ A.take i' ++ B.take j' := by
    rcases hs with h | h
    · rcases ha with ⟨_, e⟩ | ⟨g, _⟩
      · exact List.mem_append_left _ (by rw [e, (take_on' A i at' h).1]; exact List.mem_append_right _ (List.mem_singleton.2 rfl))
      · have := g at' h; omega
    · rcases hb with ⟨_, e⟩ | ⟨g, _⟩
      · exact List.mem_append_right _ (by rw [e, (take_on' B j at' h).1]; exact List.mem_append_right _ (List.mem_singleton.2 rfl))
      · have := g at' h; omega
  have hold : ∀ x, x ∈ A.take i ++ B.take j → x < at' := fun x hx => S.lt x hx at' hat
  have hmono : ∀ x, x ∈ A.take i ++ B.take j → x ∈ A.take i' ++ B.take j' := fun x hx => by
    rw [a2, b2]
    rcases List.mem_append.1 hx with g | g
    · exact List.mem_append_left _ (List.mem_append_left _ g)
    · exact List.mem_append_right _ (List.mem_append_left _ g)
  have hnew : ∀ x, x ∈ A.take i' ++ B.take j' → x ≤ at' := fun x hx => by
    rw [a2, b2] at hx
    rcases List.mem_append.1 hx with g | g
    · rcases List.mem_append.1 g with g | g
      · have := hold x (List.mem_append_left _ g); omega
      · have := a3 x g; omega
    · rcases List.mem_append.1 g with g | g
      · have := hold x (List.mem_append_right _ g); omega
      · have := b3 x g; omega
  have hlt : ∀ x, x ∈ A.take i' ++ B.take j' → ∀ y, y ∈ A.drop i' ++ B.drop j' → x < y := fun x hx y hy => by
    have h1 := hnew x hx
    rcases List.mem_append.1 hy with g | g
    · have := a4 y g; omega
    · have := b4 y g; omega
  have htl : ∀ x, x ∈ t → x < at' := fun x hx => hold x (S.tl x hx)
  have low : ∀ n, n < at' → tin (A.take i') n = tin (A.take i) n ∧ tin (B.take j') n = tin (B.take j) n := fun n hn => by
    rw [a2, b2]
    exact ⟨tin_pre (fun x hx => by rw [a3 x hx]; exact hn), tin_pre (fun x hx => by rw [b3 x hx]; exact hn)⟩
  have high : ∀ n, at' ≤ n → tin (A.take i') n = decide (i' % 2 = 1) ∧ tin (B.take j') n = decide (j' % 2 = 1) := fun n hn => by
    rw [tin_all (fun x hx => Int.le_trans (hnew x (List.mem_append_left _ hx)) hn), tin_all (fun x hx => Int.le_trans (hnew x (List.mem_append_right _ hx)) hn), List.length_take, List.length_take, Nat.min_eq_left a1, Nat.min_eq_left b1]
    exact ⟨rfl, rfl⟩
  refine ⟨fun he => ⟨a1, b1, S.tr, fun x hx => hmono x (S.tl x hx), hlt, fun n => ?_, S.nw⟩, fun hne => ⟨a1, b1, ?_, fun x hx => ?_, hlt, fun n => ?_, ?_⟩⟩
  · by_cases hn : n < at'
    · rw [(low n hn).1, (low n hn).2, S.ev n]
    · rw [(high n (by omega)).1, (high n (by omega)).2, he, tin_all (fun x hx => by have := htl x hx; omega), S.nw]
  · refine List.pairwise_append.2 ⟨S.tr, List.pairwise_singleton _ _, fun x hx y hy => ?_⟩
    obtain rfl := List.mem_singleton.1 hy
    exact htl x hx
  · rcases List.mem_append.1 hx with g | g
    · exact hmono x (S.tl x g)
    · obtain rfl := List.mem_singleton.1 g
      exact hatk
  · by_cases hn : n < at'
    · rw [(low n hn).1, (low n hn).2, tin_pre (fun x hx => by rw [List.mem_singleton.1 hx]; exact hn), S.ev n]
    · have hb' : rul k (decide (i' % 2 = 1)) (decide (j' % 2 = 1)) = !b := by
        revert hne
        cases rul k (decide (i' % 2 = 1)) (decide (j' % 2 = 1)) <;> cases b <;> simp
      rw [(high n (by omega)).1, (high n (by omega)).2, hb', tin_all (fun x hx => ?_), S.nw, List.length_append]
      · show decide ((t.length + 1) % 2 = 1) = _
        by_cases h : t.length % 2 = 1
        · rw [decide_eq_true h, decide_eq_false (by omega)]; rfl
        · rw [decide_eq_false h, decide_eq_true (by omega)]; rfl
      · rcases List.mem_append.1 hx with g | g
        · have := htl x g; omega
        · have := List.mem_singleton.1 g; omega
  · rw [S.nw, List.length_append]
    show _ = decide ((t.length + 1) % 2 = 1)
    by_cases h : t.length % 2 = 1
    · rw [decide_eq_true h, decide_eq_false (by omega)]; rfl
    · rw [decide_eq_false h, decide_eq_true (by omega)]; rfl
/-- what the walk's turns mean: the meet, or the difference -/
def CombOf (k : Int) (a b c : List Rn) : Prop := form 1 c ∧ ∀ n, mem c n ↔ ((k = 1 ∧ mem a n ∧ mem b n) ∨ (k = 2 ∧ mem a n ∧ ¬ mem b n))
theorem CbI.done {k : Int} {a b : List Rn} {t : List Int} {x : Bool} (ha : form 1 a) (hb : form 1 b) (S : CbI k (tn a) (tn b) (tn a).length (tn b).length t x) : ∃ c, t = tn c ∧ CombOf k a b c := by
  have hev := S.ev
  simp only [List.take_length] at hev
  have hbd : ∀ z, z ∈ t → 1 ≤ z ∧ z ≤ 1000000001 := fun z hz => by
    have := S.tl z hz
    simp only [List.take_length] at this
    rcases List.mem_append.1 this with g | g
    · exact tn_in ha z g
    · exact tn_in hb z g
  have hlen : t.length % 2 = 0 := by
    have h1 := hev 1000000001
    rw [tin_all (fun z hz => (hbd z hz).2), tin_all (fun z hz => (tn_in ha z hz).2), tn_length] at h1
    rw [show decide (2 * a.length % 2 = 1) = false from decide_eq_false (by omega), rul_ff] at h1
    have := of_decide_eq_false h1
    omega
  obtain ⟨c, hc, e⟩ := tn_of (t.length / 2) (l := 1) (t := t) (by omega) S.tr hbd
  refine ⟨c, e.symm, hc, fun n => ?_⟩
  rw [mem_inR hc, mem_inR ha, mem_inR hb, ← tin_tn hc, ← tin_tn ha, ← tin_tn hb, e, hev n]
  unfold rul
  cases tin (tn a) n <;> cases tin (tn b) n <;> simp
end Go.Proofs.Ytbmjiedpaffifaa
