/- LCpt LCp -/
import Derived.Test.YtehcehhfdhiomaaGreatTv35
import Derived.Deep.LoopGhost
namespace Go.Proofs.YtehcehhfdhiomaaGreat.K
open Go.RowKit Go.Lib
attribute [local go_sem ↓] ld28_eq st28_eq run_eq28
attribute [local go_sem] zero_EC cells_EV EC_size
theorem add_add (p : Addr) (i j : Nat) : (p.add i).add j = p.add (i + j) := by
 unfold Addr.add; split <;> split <;> simp_all [Nat.add_assoc]
def cl22 (a : Value) : Sem Value := Builtin.clear_ #[22] 0 #[a]
theorem cl22_eq (a : Value) : Builtin.clear_ #[22] 0 #[a] = cl22 a := rfl
attribute [local go_sem ↓] cl22_eq
def CompOut (w w' : World) (e : Ending) (ad : Addr) (cap : Nat) (d : Array En) : Prop :=
 ∃ k d', e = .returned (.slice (some ad) k cap) ∧ MR w' ad d' ∧ k ≤ d.size ∧ d'.size = d.size ∧ d'.toList.take k = compactUpTo d d.size ∧ Below ad.block w w'
theorem compOut_all {w w' : World} {ad : Addr} {cap n : Nat} {d : Array En} (hn : d.size = n) (M : MR w' ad d) (hb : Below ad.block w w') (hall : ∀ j, j < d.size → keeps d j = true) : CompOut w w' (.returned (.slice (some ad) n cap)) ad cap d :=
 ⟨n, d, rfl, M, by omega, rfl, by rw [compactUpTo_all d _ hall, range_map_get, List.take_of_length_le (by simp; omega)], hb⟩
theorem comp_low {d dk d' : Array En} {n kk : Nat} (hI : CompInv d n kk dk) (hn : d.size = n) (hs : d'.size = dk.size) (hl : ∀ j, j < kk → d'[j]! = dk[j]!) : d'.toList.take kk = compactUpTo d d.size := by
 rw [hn]
 have hkk := hI.lt
 have hsz := hI.size
 apply List.ext_getElem?
 intro j
 by_cases hj : j < kk
 ·rw [hI.low j hj, ← hl j hj, List.getElem?_take, if_pos hj, Array.getElem?_toList, Array.getElem?_eq_getElem (by omega), getElem!_pos d' j (by omega)]
 ·rw [List.getElem?_eq_none (by rw [List.length_take]; omega), List.getElem?_eq_none (by rw [hI.len]; omega)]
set_option maxRecDepth 100000 in
set_option maxHeartbeats 8000000 in
theorem compact_any (ad : Addr) (cap n : Nat) (d : Array En) (w : World) (M : MR w ad d) (hn : d.size = n) (hb : n ≤ 3518437208883) (hcap : n ≤ cap) (hcm : cap ≤ 9223372036854775807) :
  Calls Tryz.prog 101 #[.slice (some ad) n cap] w fun e w' => CompOut w w' e ad cap d := by
 have HM := hide M
 have HN := hide hn
 have HLT : Hid (ad.block ≤ w.heap.size) := Nat.le_of_lt M.lt
 clear M hn
 by_cases h2 : n < 2
 ·have HF : Hid (CompOut w w (.returned (.slice (some ad) n cap)) ad cap d) := compOut_all HN.out HM.out (Below.refl _ _) (fun j hj => keeps_lt_one d j (by have := HN.out; omega))
  go_enter Tryz.func101, Tryz.ntmps101
  go_wp2_with fail
  go_ret
  exact HF.out
 ·go_enter Tryz.func101, Tryz.ntmps101
  go_wp2_with fail
  go_loopg [3] n (fun g s wr => ∃ k : Nat, 1 ≤ k ∧ k ≤ n ∧ n - k ≤ g ∧ s = .int .i64 k ∧ Hid (Below w.heap.size w wr ∧ ∀ j, j < k → keeps d j = true))
  case atStart => exact ⟨1, Nat.le_refl _, by omega, by omega, rfl, Below.refl _ _, keeps_lt_one d⟩
  case round =>
   obtain ⟨k, hk1, hk, hg, rfl, H⟩ := hrel
   rename World => w4
   have HM4 := hide (HM.out.on H.out.1)
   by_cases hlt : k < n
   ·obtain ⟨j, hj⟩ : ∃ j, k - 1 = j := ⟨_, rfl⟩
    have hz : IntKind.i64.wrap ((k : Int) - 1) = (j : Int) := by rw [IntKind.wrap_i64]; omega
    have hjn : j < n := by omega
    have A0 := hide (HM4.out.at k (by rw [HN.out]; exact hlt))
    have A1 := hide (HM4.out.at j (by rw [HN.out]; exact hjn))
    obtain ⟨x, Hx⟩ : ∃ x, Hid (d[k]! = x) := ⟨_, rfl⟩
    obtain ⟨y, Hy⟩ : ∃ y, Hid (d[j]! = y) := ⟨_, rfl⟩
    rw [Hx.out] at A0
    rw [Hy.out] at A1
    have Hj := hide hj
    clear hj
    have l0 : ∀ d os, (ld28 (.pointer (some (ad.add (k * 4))))).run Tryz.prog (Sort.grow (redrawn w4 d) os) = .ok (EV x) (Sort.grow (redrawn w4 d) os) := fun d os => run_ld28 (A0.out.on (below_regrown w4 d os))
    have l1 : ∀ d os, (ld28 (.pointer (some (ad.add (j * 4))))).run Tryz.prog (Sort.grow (redrawn w4 d) os) = .ok (EV y) (Sort.grow (redrawn w4 d) os) := fun d os => run_ld28 (A1.out.on (below_regrown w4 d os))
    obtain ⟨q, hq⟩ : ∃ q, eqE x y = q := ⟨_, rfl⟩
    cases q with
    | false =>
     have HK : Hid (keeps d k = true) := keeps_pos (by rw [Hj.out, Hx.out, Hy.out]; intro h; rw [(eqE_iff x y).2 h] at hq; cases hq)
     go_wp2_with fail
     refine wp_region_quiet_below (by kernel_rfl) (by kernel_rfl) ?_
     repeat (with_reducible (refine wpQuiet_step ?_); intro K hK; go_simp; (try rw [if_neg (by unfold undef; simp)]); first | (with_reducible (refine hK _ ?_); clear hK K) | (apply Exists.intro; refine ⟨fun _ => ?_, hK _ ?_⟩; (fail); clear hK K))
     with_reducible (refine wpQuiet_nil ?_)
     intro w5 hw'
     obtain ⟨⟨dq, osq⟩, hw''⟩ := hw'
     have b5 : Below w4.heap.size w4 w5 := by rw [hw'']; exact below_regrown w4 dq osq
     clear hw'' dq osq
     have H5 : Hid (Below w.heap.size w w5 ∧ ∀ j, j < k + 1 → keeps d j = true) := ⟨H.out.1.trans (b5.mono H.out.1.size), fun i hi => by
      by_cases e : i = k
      ·rw [e]; exact HK.out
      ·exact H.out.2 i (by omega)⟩
     clear b5 l0 l1
     go_wp2_with fail
     go_roundg (n - (k + 1))
     case measure => omega
     case rel => exact ⟨k + 1, by omega, by omega, Nat.le_refl _, by go_num, H5⟩
    | true =>
     have HK : Hid (keeps d k = false) := keeps_neg (by omega) (by rw [Hj.out, Hx.out, Hy.out]; exact (eqE_iff x y).1 hq)
     go_wp2_with fail
     refine wp_region_quiet_below (by kernel_rfl) (by kernel_rfl) ?_
     repeat (with_reducible (refine wpQuiet_step ?_); intro K hK; go_simp; (try rw [if_neg (by unfold undef; simp)]); first | (with_reducible (refine hK _ ?_); clear hK K) | (apply Exists.intro; refine ⟨fun _ => ?_, hK _ ?_⟩; (fail); clear hK K))
     with_reducible (refine wpQuiet_nil ?_)
     intro w5 hw'
     obtain ⟨⟨dq, osq⟩, hw''⟩ := hw'
     have b5 : Below w4.heap.size w4 w5 := by rw [hw'']; exact below_regrown w4 dq osq
     clear hw'' dq osq
     have HM5 := hide (HM4.out.on b5)
     have HB5 : Hid (Below ad.block w w5) := (H.out.1.mono HLT.out).trans (b5.mono (Nat.le_trans HLT.out H.out.1.size))
     have HC5 : Hid (CompInv d (k + 1) k d) := CompInv.start H.out.2 HK.out
     clear b5 l0 l1 hq
     go_wp2_with fail
     go_loopg [3, 5] n (fun g s3 s5 wr => ∃ (kk k2 : Nat) (dk : Array En), 1 ≤ k2 ∧ k + k2 ≤ n ∧ kk < n ∧ n - (k + k2) ≤ g ∧ s3 = .int .i64 kk ∧ s5 = .int .i64 k2 ∧ Hid (MR wr ad dk ∧ CompInv d (k + k2) kk dk ∧ Below ad.block w wr))
     case atStart => exact ⟨k, 1, d, Nat.le_refl _, by omega, hlt, by omega, rfl, rfl, HM5.out, HC5.out, HB5.out⟩
     case round =>
      obtain ⟨kk, k2, dk, hk2, hkn, hkk, hg2, rfl, rfl, HI⟩ := hrel
      rename World => w6
      clear HM5 HC5 HB5 HM4 A0 A1
      have HD : Hid (dk.size = n) := HI.out.2.1.size.trans HN.out
      by_cases hlt2 : k2 < n - k
      ·obtain ⟨j2, hj2⟩ : ∃ j2, k2 - 1 = j2 := ⟨_, rfl⟩
       have hz2 : IntKind.i64.wrap ((k2 : Int) - 1) = (j2 : Int) := by rw [IntKind.wrap_i64]; omega
       have hjn2 : j2 < n - k := by omega
       have A0 := hide (HI.out.1.at (k + k2) (by rw [HD.out]; omega))
       have A1 := hide (HI.out.1.at (k + j2) (by rw [HD.out]; omega))
       have hkk2 := HI.out.2.1.lt
       obtain ⟨u, Hu⟩ : ∃ u, Hid (d[k + k2]! = u) := ⟨_, rfl⟩
       obtain ⟨v, Hv⟩ : ∃ v, Hid (d[k + j2]! = v) := ⟨_, rfl⟩
       rw [HI.out.2.1.high (k + k2) (by omega), Hu.out, Nat.add_mul, ← add_add] at A0
       rw [HI.out.2.1.high (k + j2) (by omega), Hv.out, Nat.add_mul, ← add_add] at A1
       have Hj2 : Hid (k + k2 - 1 = k + j2) := by show _ = _; omega
       clear hj2
       have l0 : ∀ d os, (ld28 (.pointer (some ((ad.add (k * 4)).add (k2 * 4))))).run Tryz.prog (Sort.grow (redrawn w6 d) os) = .ok (EV u) (Sort.grow (redrawn w6 d) os) := fun d os => run_ld28 (A0.out.on (below_regrown w6 d os))
       have l1 : ∀ d os, (ld28 (.pointer (some ((ad.add (k * 4)).add (j2 * 4))))).run Tryz.prog (Sort.grow (redrawn w6 d) os) = .ok (EV v) (Sort.grow (redrawn w6 d) os) := fun d os => run_ld28 (A1.out.on (below_regrown w6 d os))
       obtain ⟨q2, hq2⟩ : ∃ q2, eqE u v = q2 := ⟨_, rfl⟩
       cases q2 with
       | true =>
        have HNX : Hid (CompInv d (k + k2 + 1) kk dk) := HI.out.2.1.skip (keeps_neg (by omega) (by rw [Hj2.out, Hu.out, Hv.out]; exact (eqE_iff u v).1 hq2))
        go_wp2_with fail
        refine wp_region_quiet_below (by kernel_rfl) (by kernel_rfl) ?_
        repeat (with_reducible (refine wpQuiet_step ?_); intro K hK; go_simp; (try rw [if_neg (by unfold undef; simp)]); first | (with_reducible (refine hK _ ?_); clear hK K) | (apply Exists.intro; refine ⟨fun _ => ?_, hK _ ?_⟩; (fail); clear hK K))
        with_reducible (refine wpQuiet_nil ?_)
        intro w7 hw'
        obtain ⟨⟨dq, osq⟩, hw''⟩ := hw'
        have b7 : Below w6.heap.size w6 w7 := by rw [hw'']; exact below_regrown w6 dq osq
        clear hw'' dq osq
        have H7 : Hid (MR w7 ad dk ∧ CompInv d (k + (k2 + 1)) kk dk ∧ Below ad.block w w7) := ⟨HI.out.1.on b7, HNX.out, HI.out.2.2.trans (b7.mono (Nat.le_of_lt HI.out.1.lt))⟩
        clear b7 l0 l1
        go_wp2_with fail
        go_roundg (n - (k + (k2 + 1)))
        case measure => omega
        case rel => exact ⟨kk, k2 + 1, dk, by omega, by omega, hkk, Nat.le_refl _, rfl, by go_num, H7⟩
       | false =>
        have HNX : Hid (CompInv d (k + k2 + 1) (kk + 1) (dk.setIfInBounds kk u)) := by
         have := HI.out.2.1.keep (by rw [HN.out]; omega) (keeps_pos (by rw [Hj2.out, Hu.out, Hv.out]; intro h; rw [(eqE_iff u v).2 h] at hq2; cases hq2))
         rwa [Hu.out] at this
        go_wp2_with fail
        refine wp_region_quiet_below (by kernel_rfl) (by kernel_rfl) ?_
        repeat (with_reducible (refine wpQuiet_step ?_); intro K hK; go_simp; (try rw [if_neg (by unfold undef; simp)]); first | (with_reducible (refine hK _ ?_); clear hK K) | (apply Exists.intro; refine ⟨fun _ => ?_, hK _ ?_⟩; (fail); clear hK K))
        with_reducible (refine wpQuiet_nil ?_)
        intro w7 hw'
        obtain ⟨⟨dq, osq⟩, hw''⟩ := hw'
        have b7 : Below w6.heap.size w6 w7 := by rw [hw'']; exact below_regrown w6 dq osq
        clear hw'' dq osq
        have l7 := run_ld28 (A0.out.on b7)
        obtain ⟨w8, hst, M8, B8, _⟩ := (HI.out.1.on b7).store kk u (by rw [HD.out]; exact hkk)
        have H8 : Hid (MR w8 ad (dk.setIfInBounds kk u) ∧ CompInv d (k + (k2 + 1)) (kk + 1) (dk.setIfInBounds kk u) ∧ Below ad.block w w8) := ⟨M8, HNX.out, (HI.out.2.2.trans (b7.mono (Nat.le_of_lt HI.out.1.lt))).trans B8⟩
        clear b7 l0 l1 M8 B8
        go_wp2_with fail
        go_roundg (n - (k + (k2 + 1)))
        case measure => omega
        case rel => exact ⟨kk + 1, k2 + 1, dk.setIfInBounds kk u, by omega, by omega, by omega, Nat.le_refl _, by go_num, by go_num, H8⟩
      ·have hend : k + k2 = n := by omega
       obtain ⟨w7, d', hcl, M7, hs7, hl7, B7, _⟩ := HI.out.1.clear kk (by rw [HD.out]; exact hkk) (cap - kk)
       rw [HD.out] at hcl
       have hcl0 : (cl22 (.slice (some (ad.add (kk * 4))) (n - kk) (cap - kk))).run Tryz.prog w6 = .ok (.tuple #[]) w7 := hcl 0
       have HF : Hid (CompOut w w7 (.returned (.slice (some ad) kk cap)) ad cap d) := by
        have hI := HI.out.2.1
        rw [hend] at hI
        exact ⟨kk, d', rfl, M7, by rw [HN.out]; omega, hs7.trans hI.size, comp_low hI HN.out hs7 hl7, HI.out.2.2.trans B7⟩
       clear hcl M7 hs7 hl7 B7
       go_wp2_with fail
       go_ret
       exact HF.out
   ·have HF : Hid (CompOut w w4 (.returned (.slice (some ad) n cap)) ad cap d) := compOut_all HN.out HM4.out (H.out.1.mono HLT.out) (fun j hj => H.out.2 j (by have := HN.out; omega))
    go_wp2_with fail
    go_ret
    exact HF.out
end Go.Proofs.YtehcehhfdhiomaaGreat.K
namespace Go.Proofs.YtehcehhfdhiomaaGreat.K
open Go.RowKit Go.Lib

theorem cmp_sub (d : Array En) : (compactUpTo d d.size).Sublist d.toList := by
 have h : (compactUpTo d d.size).Sublist ((List.range d.size).map (d[·]!)) := List.filter_sublist.map _
 rwa [range_map_get] at h
theorem bang_at (d : Array En) (i : Nat) (h : i < d.size) : d[i]! = d[i] := getElem!_pos d i h
theorem cmp_mem (d : Array En) (m : Nat) : m ≤ d.size → ∀ j, j < m → d[j]! ∈ compactUpTo d m := by
 induction m with
 | zero => intro _ j hj; omega
 | succ m ih =>
  intro hm j hj
  rw [compactUpTo_succ]
  by_cases e : j = m
  ·subst e
   by_cases hk : keeps d j = true
   ·rw [if_pos hk]; simp
   ·rw [if_neg hk, List.append_nil]
    have hk' : ¬ (j = 0 ∨ d[j]! ≠ d[j - 1]!) := by simpa [keeps] using hk
    have h0 : ¬ j = 0 := fun h => hk' (Or.inl h)
    have h1 : d[j]! = d[j - 1]! := Classical.byContradiction fun h => hk' (Or.inr h)
    rw [h1]
    exact ih (by omega) (j - 1) (by omega)
  ·exact List.mem_append_left _ (ih (by omega) j (by omega))
theorem cmp_iff (d : Array En) (x : En) : x ∈ compactUpTo d d.size ↔ x ∈ d.toList := by
 constructor
 ·exact fun h => (cmp_sub d).mem h
 ·intro h
  obtain ⟨i, hi, rfl⟩ := List.mem_iff_getElem.1 h
  have hi' : i < d.size := by simpa using hi
  have := cmp_mem d d.size (Nat.le_refl _) i hi'
  rw [bang_at d i hi'] at this
  simpa using this
theorem cmp_last (d : Array En) (m : Nat) : 0 < m → (compactUpTo d m).getLast? = some d[m - 1]! := by
 induction m with
 | zero => intro h; omega
 | succ m ih =>
  intro _
  rw [compactUpTo_succ]
  by_cases hk : keeps d m = true
  ·rw [if_pos hk]; simp
  ·rw [if_neg hk, List.append_nil]
   have hk' : ¬ (m = 0 ∨ d[m]! ≠ d[m - 1]!) := by simpa [keeps] using hk
   have h0 : ¬ m = 0 := fun h => hk' (Or.inl h)
   have h1 : d[m]! = d[m - 1]! := Classical.byContradiction fun h => hk' (Or.inr h)
   rw [ih (by omega), show m + 1 - 1 = m by omega, h1]
theorem cmp_adj (d : Array En) (m : Nat) : ∀ i, i + 1 < (compactUpTo d m).length → (compactUpTo d m).getD i en0 ≠ (compactUpTo d m).getD (i + 1) en0 := by
 induction m with
 | zero => intro i hi; simp [compactUpTo] at hi
 | succ m ih =>
  intro i hi
  by_cases hk : keeps d m = true
  ·rw [compactUpTo_succ, if_pos hk] at hi ⊢
   rw [List.length_append, List.length_singleton] at hi
   by_cases e : i + 1 < (compactUpTo d m).length
   ·have := ih i e
    simpa [List.getD, List.getElem?_append_left, e, show i < (compactUpTo d m).length by omega] using this
   ·have el : i + 1 = (compactUpTo d m).length := by omega
    have hm : 0 < m := by
     rcases Nat.eq_zero_or_pos m with h | h
     ·subst h; simp [compactUpTo] at el
     ·exact h
    have hl := cmp_last d m hm
    rw [List.getLast?_eq_getElem?, ← el, Nat.add_sub_cancel] at hl
    have hne : d[m]! ≠ d[m - 1]! := by
     have : m = 0 ∨ d[m]! ≠ d[m - 1]! := by simpa [keeps] using hk
     rcases this with h | h
     ·omega
     ·exact h
    rw [List.getD, List.getElem?_append_left (by omega), hl, List.getD, List.getElem?_append_right (by omega), el, Nat.sub_self]
    simpa using fun h => hne h.symm
  ·rw [compactUpTo_succ, if_neg hk, List.append_nil] at hi ⊢
   exact ih i hi
theorem asc_of_adj (C : List En) (h : ∀ i, i + 1 < C.length → ahead (C.getD i en0) (C.getD (i + 1) en0) = true) : Asc C := by
 have key : ∀ k i, i + k + 1 < C.length → ahead (C.getD i en0) (C.getD (i + k + 1) en0) = true := by
  intro k
  induction k with
  | zero => intro i hi; exact h i hi
  | succ k ih => intro i hi; exact ahead_trans (ih i (by omega)) (h (i + k + 1) (by omega))
 refine List.pairwise_iff_getElem.2 fun i j hi hj hij => ?_
 have := key (j - i - 1) i (by omega)
 rw [show i + (j - i - 1) + 1 = j by omega] at this
 simpa [List.getD, hi, hj] using this
def AdjN (C : List En) (k : Nat) : Prop := ∀ i, i + 1 < k → sameDot (C.getD (i + 1) en0) (C.getD i en0) = false
theorem settled_done {d : Array En} {C : List En} (hC : C = compactUpTo d d.size) (hp : d.toList.Pairwise (fun x y => leE x y = true)) (h : AdjN C C.length) : Settled d.toList C 0 := by
 have hle : C.Pairwise (fun x y => leE x y = true) := by rw [hC]; exact hp.sublist (cmp_sub d)
 have ha : Asc C := asc_of_adj C fun i hi => ahead_of (le_at hle i (i + 1) (by omega) hi) (h i hi)
 have hm : ∀ x, x ∈ C ↔ x ∈ d.toList := fun x => by rw [hC]; exact cmp_iff d x
 exact Or.inr ⟨asc_noclash ha hm, rfl, ha, hm⟩
theorem settled_clash {d : Array En} {C : List En} (hC : C = compactUpTo d d.size) (i : Nat) (hi : i + 1 < C.length) (hs : sameDot (C.getD i en0) (C.getD (i + 1) en0) = true) : Settled d.toList [] 10 := by
 have hm : ∀ x, x ∈ C → x ∈ d.toList := fun x hx => by rw [hC] at hx; exact (cmp_iff d x).1 hx
 have hne : C.getD i en0 ≠ C.getD (i + 1) en0 := by subst hC; exact cmp_adj d d.size i hi
 exact Or.inl ⟨⟨_, hm _ (getD_mem C i (by omega)), _, hm _ (getD_mem C (i + 1) hi), hs, hne⟩, rfl, rfl⟩
end Go.Proofs.YtehcehhfdhiomaaGreat.K
