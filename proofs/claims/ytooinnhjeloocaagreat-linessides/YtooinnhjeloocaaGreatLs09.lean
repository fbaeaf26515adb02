/- RNm -/
import Derived.Test.YtooinnhjeloocaaGreatLs08
namespace Go.Proofs.YtooinnhjeloocaaGreat
open Go.RowKit
attribute [local go_sem ↓] ldR_eq stR_eq
attribute [local go_sem] zero_RC cells_RV RC_size fold_RC
theorem resR {fn : Func} {p : Tmp} {w : World} {g : Nat} {T : TypeId} {r : Rn} (h : fn.results = #[.cell p 75]) {tmps : Array Value} (hp : tmps.getD p undef = .pointer (some ⟨g, 0, none⟩)) (A : Box w g T r) :
    (results fn tmps).run Tryz.prog w = .ok (RV r) w := by
  have hl := run_lvR A.at
  simp only [results, h]
  rw [Array.getD_eq_getD_getElem?] at hp
  simp [hp, asAddr, hl]
set_option maxRecDepth 100000 in
theorem clip_any (r : Rn) (w : World) : Calls Tryz.prog 105 #[RV r] w fun e w' => e = .returned (RV (clip r)) ∧ Below w.heap.size w w' := by
  have B1 := below_new w (.cells (RC r) 75)
  have HB : Hid (Below w.heap.size w ((w.alloc (.cells (RC r) 75)).alloc (.cells (RC rn0) 75))) := B1.trans ((below_new _ _).mono B1.size)
  have X1 := (box_new w 75 r).below (below_new _ (.cells (RC rn0) 75))
  have X2 := box_new (w.alloc (.cells (RC r) 75)) 75 rn0
  rw [World.size_alloc] at X2
  have c0 := X1.at.c0
  have c1 : ((w.alloc (.cells (RC r) 75)).alloc (.cells (RC rn0) 75)).cell? ⟨w.heap.size, 1, none⟩ = some (.int .i64 r.hi) := X1.at.c1
  have HX := hide (X2.setRow (r' := clip r))
  have hst : (stR (.pointer (some ⟨w.heap.size + 1, 0, none⟩)) (.agg (((RC rn0).setIfInBounds 0 (.int .i64 (max r.lo 1))).setIfInBounds 1 (.int .i64 (min r.hi 1000000000))))).run Tryz.prog ((w.alloc (.cells (RC r) 75)).alloc (.cells (RC rn0) 75)) = .ok () (((w.alloc (.cells (RC r) 75)).alloc (.cells (RC rn0) 75)).setRow (w.heap.size + 1) (RC (clip r))) := run_stR (r' := clip r) X2
  have HB2 : Hid (Below w.heap.size w (((w.alloc (.cells (RC r) 75)).alloc (.cells (RC rn0) 75)).setRow (w.heap.size + 1) (RC (clip r)))) := below_setRow HB.out (by omega)
  clear X1 X2 B1
  go_enter Tryz.func105, Tryz.ntmps105
  go_wp2_with fail
  exact bodyPost_ret (resR Tryz.results105 rfl HX.out) rfl ⟨rfl, HB2.out⟩
/-- the last run's end is written over -/
theorem OwnR.setHi {B0 B : Nat} {w w' : World} {ad : Addr} {cap : Nat} {i : List Rn} {x : Rn} (O : OwnR B0 B w w' (some ad) cap (i ++ [x])) (h : Int) : OwnR B0 B w (w'.setCell ((ad.add (i.length * 2)).add 1) (.int .i64 h)) (some ad) cap (i ++ [⟨x.lo, h⟩]) ∧ w'.frozen? ((ad.add (i.length * 2)).add 1) = false := by
  have hln : (i ++ [(⟨x.lo, h⟩ : Rn)]).length = (i ++ [x]).length := by simp
  rcases O.own.2 with ⟨h0, _⟩ | ⟨g, c, cur, hv, hbg, hgg, hnc, hcm, hcsz, htake⟩
  · cases h0
  · simp only [Value.slice.injEq, Option.some.injEq, true_and] at hv
    obtain ⟨rfl, rfl⟩ := hv
    rw [Addr.add_lit, Addr.add_lit, Nat.zero_add]
    have hB := O.hB
    refine ⟨⟨⟨by rw [rcs_length], Or.inr ⟨g, cap, cur.setIfInBounds (i.length * 2 + 1) (.int .i64 h), by rw [hln], hbg, heap_setCell_same w' g (i.length * 2 + 1) cur 75 _ hgg, by rw [hln]; exact hnc, hcm, by simpa using hcsz, ?_⟩⟩, O.below.setCell (by have := O.hB0; show B0 ≤ g; omega) _, by simpa [World.setCell] using hB, O.hB0⟩, by simp [World.frozen?, hgg]⟩
    rw [Array.toList_setIfInBounds, List.take_set, hln, htake, rcs_append, rcs_append, rcs_one, rcs_one, List.set_append_right _ _ (by rw [rcs_length]; omega), rcs_length]
    rw [show i.length * 2 + 1 - i.length * 2 = 1 by omega]
    rfl
/-- a list is handed back, in memory of its own -/
def GivesRN (w w' : World) (e : Ending) (P : List Rn → Prop) : Prop := ∃ ao n c L, e = .returned (.slice ao n c) ∧ RSrc w' ao n c L ∧ Below w.heap.size w w' ∧ (∀ ad, ao = some ad → w.heap.size ≤ ad.block) ∧ P L
theorem GivesRN.gives {w w' : World} {e : Ending} {P : List Rn → Prop} (h : GivesRN w w' e P) : GivesR w w' e P := by
  obtain ⟨ao, n, c, L, e1, S, b, _, p⟩ := h
  exact ⟨ao, n, c, L, e1, S, b, p⟩
set_option maxRecDepth 100000 in
set_option maxHeartbeats 4000000 in
theorem merge_new (ao : Option Addr) (n cap : Nat) (P : List Rn) (w : World) (hS : RSrc w ao n cap P) (hs : P.Pairwise (fun x y => x.lo ≤ y.lo)) (hc : ∀ x, x ∈ P → 1 ≤ x.lo ∧ x.lo ≤ x.hi ∧ x.hi ≤ 1000000000) :
    Calls Tryz.prog 108 #[.slice ao n cap] w fun e w' => GivesRN w w' e (NormOf P) := by
  have HS := hide hS
  have hn := hS.big
  have HL : Hid (P.length = n) := hS.len
  have HP := hide hs
  have HC := hide hc
  clear hS hs hc
  go_enter Tryz.func108, Tryz.ntmps108
  go_wp2_with fail
  go_loopw [3, 5, 6, 9] (fun v _ _ i wr => ∃ (k : Nat) (ap : Option Addr) (c : Nat) (acc : List Rn), k ≤ n ∧ acc.length ≤ k ∧ v = .slice ap acc.length c ∧ i = .int .i64 k ∧ Hid (MgInv (P.take k) acc ∧ OwnR w.heap.size w.heap.size w wr ap c acc)) (fun _ _ _ i _ => n - (intOf i).toNat)
  case atStart => exact ⟨0, none, 0, [], Nat.zero_le _, Nat.le_refl _, rfl, rfl, MgInv.start, OwnR.nil (Below.refl _ _) (Nat.le_refl _) (Nat.le_refl _)⟩
  case round =>
    obtain ⟨k, ap, c, acc, hk, hal, rfl, rfl, H⟩ := hrel
    rename World => w4
    by_cases hlt : k < n
    · obtain ⟨ad, rfl, A0⟩ := (HS.out.below H.out.2.below).at k hlt
      have hld := run_ldR A0
      obtain ⟨r, Hr⟩ : ∃ r, Hid (P.getD k rn0 = r) := ⟨_, rfl⟩
      rw [Hr.out] at hld
      have hkl : k < P.length := by rw [HL.out]; exact hlt
      have hgk : P.getD k rn0 = P[k]'hkl := by simp [List.getD, hkl]
      have HRM : Hid (r ∈ P) := by show _ ∈ _; rw [← Hr.out, hgk]; exact List.getElem_mem _
      have HRC := hide (HC.out r HRM.out)
      have HT : Hid (P.take (k + 1) = P.take k ++ [r]) := by show _ = _; rw [List.take_succ_eq_append_getElem hkl, ← hgk, Hr.out]
      have HRS : Hid (∀ p, p ∈ P.take k → p.lo ≤ r.lo) := fun p hp => by
        obtain ⟨j, hj, rfl⟩ := List.mem_iff_getElem.1 hp
        rw [List.length_take] at hj
        rw [← Hr.out, hgk, List.getElem_take]
        exact List.pairwise_iff_getElem.1 HP.out j k (by omega) hkl (by omega)
      obtain ⟨w5, hst, X5, B5, Z5⟩ := made w4 r w4.heap.size rfl
      have HX5 := hide X5
      have HO5 := hide (H.out.2.later B5)
      clear A0 X5 B5 hgk hkl
      obtain ⟨lo, hi⟩ := r
      have r1 := HRC.out.1
      have r2 := HRC.out.2.1
      have r3 := HRC.out.2.2
      simp only at r1 r2 r3
      rcases List.eq_nil_or_concat acc with e | ⟨i, x, e⟩
      · subst e
        have HN : Hid (MgInv (P.take (k + 1)) ([] ++ [⟨lo, hi⟩])) := by rw [HT.out]; exact H.out.1.first r1 r2 r3
        have hm1 : IntKind.i64.wrap ((0 : Int) - 1) = -1 := by rw [IntKind.wrap_i64]; omega
        go_wp2_with fail
        refine wp_region_quiet_below (by kernel_rfl) (by kernel_rfl) ?_
        repeat (with_reducible (refine wpQuiet_step ?_); intro K hK; go_simp; (try rw [if_neg (by unfold undef; simp)]); first | (with_reducible (refine hK _ ?_); clear hK K) | (apply Exists.intro; refine ⟨fun _ => ?_, hK _ ?_⟩; (fail); clear hK K))
        with_reducible (refine wpQuiet_nil ?_)
        intro w6 hw'
        obtain ⟨⟨dq, osq⟩, hw''⟩ := hw'
        have b6 : Below w5.heap.size w5 w6 := by rw [hw'']; exact below_regrown w5 dq osq
        clear hw'' dq osq
        have HO6 := hide (HO5.out.later b6)
        have l6 := run_ldR (HX5.out.below b6).at
        clear b6
        go_wp2_with (at_builtin; refine HO6.out.append ⟨lo, hi⟩ _ rfl (by simp) rfl (.tmp 41) (.tmp 43) rfl 0 rfl rfl rfl ?_; intro g7 c7 w7 O7)
        go_roundw
        case rel => exact ⟨k + 1, some ⟨g7, 0, none⟩, c7, [] ++ [⟨lo, hi⟩], by omega, by simp, by simp, by go_num, HN.out, O7⟩
        case measure => simp [intOf]; omega
      · rw [List.concat_eq_append] at e
        subst e
        obtain ⟨j, hj⟩ : ∃ j, i.length = j := ⟨_, rfl⟩
        obtain ⟨m, hlj⟩ : ∃ m, (i ++ [x]).length = m := ⟨_, rfl⟩
        have hjm : j + 1 = m := by rw [← hlj]; simp [hj]
        have HJM := hide hjm
        rw [hlj] at hal ⊢
        have hm1 : IntKind.i64.wrap ((m : Int) - 1) = (j : Int) := by rw [IntKind.wrap_i64]; omega
        have hd0 : decide ((0 : Int) ≤ (j : Int)) = true := decide_eq_true (by omega)
        have hjj : j < m := by omega
        clear hjm
        have HF := hide (form_last H.out.1.frm)
        obtain ⟨S5, F5⟩ := HO5.out.src (by rw [hlj]; omega)
        rw [hlj] at S5
        obtain ⟨ap', rfl, A5⟩ := S5.at j hjj
        obtain ⟨g, rfl⟩ : ∃ g, ap' = ⟨g, 0, none⟩ := ⟨ap'.block, HO5.out.mr.1.ha⟩
        have hgx : (i ++ [x]).getD j rn0 = x := by simp [List.getD, ← hj]
        rw [hgx] at A5
        have HA5 := hide A5
        clear S5 F5 A5 hgx
        obtain ⟨xl, xh⟩ := x
        have f2 := HF.out.2.1
        have f3 := HF.out.2.2
        simp only at f2 f3
        have hw1 : IntKind.i64.wrap (xh + 1) = xh + 1 := by rw [IntKind.wrap_i64]; have := HF.out.1; simp only at this; omega
        have k0 : ∀ d os, (Sort.grow (redrawn w5 d) os).cell? ⟨w4.heap.size, 0, none⟩ = some (.int .i64 lo) := cell_regrown HX5.out.at.c0
        have A5c : w5.cell? ⟨g, j * 2 + 1, none⟩ = some (.int .i64 xh) := by have := HA5.out.c1; rw [Addr.add_lit, Addr.add_lit, Nat.zero_add] at this; exact this
        have k1 : ∀ d os, (Sort.grow (redrawn w5 d) os).cell? ⟨g, j * 2 + 1, none⟩ = some (.int .i64 xh) := cell_regrown A5c
        have HA5c := hide A5c
        clear A5c
        by_cases hg : lo ≤ xh + 1
        · have hd1 : decide (lo ≤ xh + 1) = true := decide_eq_true hg
          have HN : Hid (MgInv (P.take (k + 1)) (i ++ [⟨xl, max xh hi⟩])) := by rw [HT.out]; exact H.out.1.join HRS.out hg r2 r3
          go_wp2_with fail
          refine wp_region_quiet_below (by kernel_rfl) (by kernel_rfl) ?_
          repeat (with_reducible (refine wpQuiet_step ?_); intro K hK; go_simp; (try rw [if_neg (by unfold undef; simp)]); first | (with_reducible (refine hK _ ?_); clear hK K) | (apply Exists.intro; refine ⟨fun _ => ?_, hK _ ?_⟩; (fail); clear hK K))
          with_reducible (refine wpQuiet_nil ?_)
          intro w6 hw'
          obtain ⟨⟨dq, osq⟩, hw''⟩ := hw'
          have b6 : Below w5.heap.size w5 w6 := by rw [hw'']; exact below_regrown w5 dq osq
          clear hw'' dq osq
          have HO6 := hide (HO5.out.later b6)
          have HA6 := hide (HA5.out.on b6)
          have HX6 := hide (HX5.out.below b6)
          clear b6 k0 k1
          have q1 : w6.cell? ⟨g, j * 2 + 1, none⟩ = some (.int .i64 xh) := by have := HA6.out.c1; rw [Addr.add_lit, Addr.add_lit, Nat.zero_add] at this; exact this
          have q2 : w6.cell? ⟨w4.heap.size, 1, none⟩ = some (.int .i64 hi) := HX6.out.at.c1
          obtain ⟨O7, fz⟩ := HO6.out.setHi (max xh hi)
          rw [hj, Addr.add_lit, Addr.add_lit, Nat.zero_add] at O7 fz
          have HO7 := hide O7
          clear O7
          go_wp2_with fail
          go_region
          go_wp2_with fail
          go_roundw
          case rel => exact ⟨k + 1, some ⟨g, 0, none⟩, c, i ++ [⟨xl, max xh hi⟩], by omega, by have := HJM.out; simp [hj]; omega, by have := HJM.out; simp [hj, this], by go_num, HN.out, HO7.out.later (below_drew1 _)⟩
          case measure => simp [intOf]; omega
        · have hd1 : decide (lo ≤ xh + 1) = false := decide_eq_false hg
          have HN : Hid (MgInv (P.take (k + 1)) (i ++ [⟨xl, xh⟩] ++ [⟨lo, hi⟩])) := by rw [HT.out]; exact H.out.1.new hg r2 r3
          go_wp2_with fail
          refine wp_region_quiet_below (by kernel_rfl) (by kernel_rfl) ?_
          repeat (with_reducible (refine wpQuiet_step ?_); intro K hK; go_simp; (try rw [if_neg (by unfold undef; simp)]); first | (with_reducible (refine hK _ ?_); clear hK K) | (apply Exists.intro; refine ⟨fun _ => ?_, hK _ ?_⟩; (fail); clear hK K))
          with_reducible (refine wpQuiet_nil ?_)
          intro w6 hw'
          obtain ⟨⟨dq, osq⟩, hw''⟩ := hw'
          have b6 : Below w5.heap.size w5 w6 := by rw [hw'']; exact below_regrown w5 dq osq
          clear hw'' dq osq
          have HO6 := hide (HO5.out.later b6)
          have l6 := run_ldR (HX5.out.below b6).at
          clear b6 k0 k1
          go_wp2_with (at_builtin; refine HO6.out.append ⟨lo, hi⟩ _ rfl (by rw [hlj]; omega) rfl (.tmp 41) (.tmp 43) rfl m hlj rfl rfl ?_; intro g7 c7 w7 O7)
          go_roundw
          case rel => exact ⟨k + 1, some ⟨g7, 0, none⟩, c7, i ++ [⟨xl, xh⟩] ++ [⟨lo, hi⟩], by omega, by rw [List.length_append, hlj]; simp; omega, by rw [List.length_append, hlj]; simp, by go_num, HN.out, O7⟩
          case measure => simp [intOf]; omega
    · obtain rfl : k = n := by omega
      have HE : Hid (P.take k = P) := List.take_of_length_le (by rw [HL.out]; exact Nat.le_refl _)
      obtain ⟨S4, F4⟩ := H.out.2.src (by omega)
      have HN : Hid (GivesRN w w4 (.returned (.slice ap acc.length c)) (NormOf P)) := ⟨ap, acc.length, c, acc, rfl, S4, H.out.2.below, F4, H.out.1.frm, fun n => by rw [H.out.1.mm n, HE.out]⟩
      clear S4 F4
      go_wp2_with fail
      go_ret
      exact HN.out
end Go.Proofs.YtooinnhjeloocaaGreat
