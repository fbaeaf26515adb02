/- LCp LRis LSor LSo2 LShg -/
import Derived.Test.YtooinnhjeloocaaGreatLs38
import Derived.Shelf.SlSortCmp.NoneTotal
import Derived.Lib.SliceRun
import Derived.Shelf.Spec.SlicesGrow
import Derived.Shelf.SlGeneric
import Derived.Test.YtooinnhjeloocaaGreatProg
namespace Go.Proofs.YtooinnhjeloocaaGreat.K
open Go.RowKit Go.Lib

theorem cmp_sub (d : Array En) : (compactUpTo d d.size).Sublist d.toList := by
  have h : (compactUpTo d d.size).Sublist ((List.range d.size).map (d[·]!)) := List.filter_sublist.map _
  rwa [range_map_get] at h
theorem bang_at (d : Array En) (i : Nat) (h : i < d.size) : d[i]! = d[i] := getElem!_pos d i h
theorem cmp_mem (d : Array En) (m : Nat) : m ≤ d.size → ∀ j, j < m → d[j]! ∈ compactUpTo d m := by
  induction m with
  | zero => intro _ j hj; omega
  | succ m ih =>
    intro hm j hj
    rw [compactUpTo_succ]
    by_cases e : j = m
    · subst e
      by_cases hk : keeps d j = true
      · rw [if_pos hk]; simp
      · rw [if_neg hk, List.append_nil]
        have hk' : ¬ (j = 0 ∨ d[j]! ≠ d[j - 1]!) := by simpa [keeps] using hk
        have h0 : ¬ j = 0 := fun h => hk' (Or.inl h)
        have h1 : d[j]! = d[j - 1]! := Classical.byContradiction fun h => hk' (Or.inr h)
        rw [h1]
        exact ih (by omega) (j - 1) (by omega)
    · exact List.mem_append_left _ (ih (by omega) j (by omega))
theorem cmp_iff (d : Array En) (x : En) : x ∈ compactUpTo d d.size ↔ x ∈ d.toList := by
  constructor
  · exact fun h => (cmp_sub d).mem h
  · intro h
    obtain ⟨i, hi, rfl⟩ := List.mem_iff_getElem.1 h
    have hi' : i < d.size := by simpa using hi
    have := cmp_mem d d.size (Nat.le_refl _) i hi'
    rw [bang_at d i hi'] at this
    simpa using this
theorem cmp_last (d : Array En) (m : Nat) : 0 < m → (compactUpTo d m).getLast? = some d[m - 1]! := by
  induction m with
  | zero => intro h; omega
  | succ m ih =>
    intro _
    rw [compactUpTo_succ]
    by_cases hk : keeps d m = true
    · rw [if_pos hk]; simp
    · rw [if_neg hk, List.append_nil]
      have hk' : ¬ (m = 0 ∨ d[m]! ≠ d[m - 1]!) := by simpa [keeps] using hk
      have h0 : ¬ m = 0 := fun h => hk' (Or.inl h)
      have h1 : d[m]! = d[m - 1]! := Classical.byContradiction fun h => hk' (Or.inr h)
      rw [ih (by omega), show m + 1 - 1 = m by omega, h1]
theorem cmp_adj (d : Array En) (m : Nat) : ∀ i, i + 1 < (compactUpTo d m).length → (compactUpTo d m).getD i en0 ≠ (compactUpTo d m).getD (i + 1) en0 := by
  induction m with
  | zero => intro i hi; simp [compactUpTo] at hi
  | succ m ih =>
    intro i hi
    by_cases hk : keeps d m = true
    · rw [compactUpTo_succ, if_pos hk] at hi ⊢
      rw [List.length_append, List.length_singleton] at hi
      by_cases e : i + 1 < (compactUpTo d m).length
      · have := ih i e
        simpa [List.getD, List.getElem?_append_left, e, show i < (compactUpTo d m).length by omega] using this
      · have el : i + 1 = (compactUpTo d m).length := by omega
        have hm : 0 < m := by
          rcases Nat.eq_zero_or_pos m with h | h
          · subst h; simp [compactUpTo] at el
          · exact h
        have hl := cmp_last d m hm
        rw [List.getLast?_eq_getElem?, ← el, Nat.add_sub_cancel] at hl
        have hne : d[m]! ≠ d[m - 1]! := by
          have : m = 0 ∨ d[m]! ≠ d[m - 1]! := by simpa [keeps] using hk
          rcases this with h | h
          · omega
          · exact h
        rw [List.getD, List.getElem?_append_left (by omega), hl, List.getD, List.getElem?_append_right (by omega), el, Nat.sub_self]
        simpa using fun h => hne h.symm
    · rw [compactUpTo_succ, if_neg hk, List.append_nil] at hi ⊢
      exact ih i hi
theorem asc_of_adj (C : List En) (h : ∀ i, i + 1 < C.length → ahead (C.getD i en0) (C.getD (i + 1) en0) = true) : Asc C := by
  have key : ∀ k i, i + k + 1 < C.length → ahead (C.getD i en0) (C.getD (i + k + 1) en0) = true := by
    intro k
    induction k with
    | zero => intro i hi; exact h i hi
    | succ k ih => intro i hi; exact ahead_trans (ih i (by omega)) (h (i + k + 1) (by omega))
  refine List.pairwise_iff_getElem.2 fun i j hi hj hij => ?_
  have := key (j - i - 1) i (by omega)
  rw [show i + (j - i - 1) + 1 = j by omega] at this
  simpa [List.getD, hi, hj] using this
/-- k places of the compacted list have been looked at -/
def AdjN (C : List En) (k : Nat) : Prop := ∀ i, i + 1 < k → sameDot (C.getD (i + 1) en0) (C.getD i en0) = false
theorem settled_done {d : Array En} {C : List En} (hC : C = compactUpTo d d.size) (hp : d.toList.Pairwise (fun x y => leE x y = true)) (h : AdjN C C.length) : Settled d.toList C 0 := by
  have hle : C.Pairwise (fun x y => leE x y = true) := by rw [hC]; exact hp.sublist (cmp_sub d)
  have ha : Asc C := asc_of_adj C fun i hi => ahead_of (le_at hle i (i + 1) (by omega) hi) (h i hi)
  have hm : ∀ x, x ∈ C ↔ x ∈ d.toList := fun x => by rw [hC]; exact cmp_iff d x
  exact Or.inr ⟨asc_noclash ha hm, rfl, ha, hm⟩
theorem settled_clash {d : Array En} {C : List En} (hC : C = compactUpTo d d.size) (i : Nat) (hi : i + 1 < C.length) (hs : sameDot (C.getD i en0) (C.getD (i + 1) en0) = true) : Settled d.toList [] 10 := by
  have hm : ∀ x, x ∈ C → x ∈ d.toList := fun x hx => by rw [hC] at hx; exact (cmp_iff d x).1 hx
  have hne : C.getD i en0 ≠ C.getD (i + 1) en0 := by subst hC; exact cmp_adj d d.size i hi
  exact Or.inl ⟨⟨_, hm _ (getD_mem C i (by omega)), _, hm _ (getD_mem C (i + 1) hi), hs, hne⟩, rfl, rfl⟩
end Go.Proofs.YtooinnhjeloocaaGreat.K
namespace Go.Proofs.YtooinnhjeloocaaGreat.K
open Go.RowKit Go.Lib
attribute [local go_sem ↓] ld28_eq st28_eq ld26_eq run_eqD
attribute [local go_sem] zero_EC cells_EV EC_size
/-- a list and an error are handed back: the entries settled; below B all stands -/
def GivesTB (B : Nat) (w w' : World) (e : Ending) (L : List En) : Prop := ∃ ao n c R er, e = .returned (.tuple #[.slice ao n c, .int .i64 er]) ∧ ESrc w' ao n c R ∧ Below B w w' ∧ (∀ ad, ao = some ad → B ≤ ad.block) ∧ Settled L R er
theorem settled_nil : Settled [] [] 0 := Or.inr ⟨(fun ⟨_, h, _⟩ => by cases h), rfl, List.Pairwise.nil, fun _ => Iff.rfl⟩
theorem sort0 (ao : Option Addr) (cap : Nat) (w : World) : Calls Tryz.prog 37 #[.slice ao 0 cap, .func (.func 20) #[] #[]] w fun e w' => e = .returned (.tuple #[]) ∧ w' = w := AnyF.slices_SortFunc_none Tryz.sortEn ao cap _ w
theorem compact0 (ao : Option Addr) (cap : Nat) (w : World) : Calls Tryz.prog 38 #[.slice ao 0 cap] w fun e w' => e = .returned (.slice ao 0 cap) ∧ w' = w := by
  go_enter Tryz.func38, Tryz.ntmps38
  go_wp2_with fail
  go_ret
  exact ⟨rfl, rfl⟩
theorem rising0 (ao : Option Addr) (cap : Nat) (w : World) : Calls Tryz.prog 21 #[.slice ao 0 cap] w fun e w' => e = .returned (.tuple #[.slice ao 0 cap, .int .i64 0]) ∧ Below w.heap.size w w' := by
  have HB : Hid (Below w.heap.size w w) := Below.refl _ _
  go_enter Tryz.func21, Tryz.ntmps21
  go_wp2_with fail
  refine (sort0 ao cap _).mono ?_
  rintro e w1 ⟨rfl, rfl⟩
  go_wp2_with fail
  refine (compact0 ao cap _).mono ?_
  rintro e w2 ⟨rfl, rfl⟩
  go_wp2_with fail
  go_loopw [4, 11] (fun _ i wr => i = .int .i64 0 ∧ wr = w2) (fun _ _ _ => 0)
  case atStart => exact ⟨rfl, rfl⟩
  case round =>
    obtain ⟨rfl, rfl⟩ := hrel
    go_wp2_with fail
    go_ret2
    exact ⟨rfl, HB.out⟩
theorem MR.esrc {W : World} {ad : Addr} {d : Array En} (M : MR W ad d) (k c : Nat) (hk : k ≤ d.size) (C : List En) (hC : d.toList.take k = C) (hs : ∀ e ∈ C, e.sku.size ≤ maxLen) (hm : k ≤ 3518437208883) : ESrc W (some ad) k c C := by
  subst hC
  refine ⟨by rw [List.length_take, Array.length_toList]; omega, fun h => (by cases h), fun ad' h t ht => ?_, hs, hm⟩
  obtain rfl := Option.some.inj h
  have e : (d.toList.take k).getD t en0 = d[t]! := by
    rw [List.getD, List.getElem?_take, if_pos ht, Array.getElem?_toList, Array.getElem?_eq_getElem (by omega), getElem!_pos d t (by omega)]
    rfl
  rw [e]
  exact M.at t (by omega)
set_option maxRecDepth 100000 in
set_option maxHeartbeats 4000000 in
theorem rising_any (ad : Addr) (cap n : Nat) (d : Array En) (w : World) (M : MR w ad d) (hn : d.size = n) (hb : n ≤ 3518437208883) (hcap : n ≤ cap) (hcm : cap ≤ 9223372036854775807) (hsk : ∀ e ∈ d.toList, e.sku.size ≤ maxLen) :
    Calls Tryz.prog 21 #[.slice (some ad) n cap] w fun e w' => GivesTB ad.block w w' e d.toList := by
  have HM := hide M
  have HN := hide hn
  have HSK := hide hsk
  have HC := hide hcap
  have HCM := hide hcm
  clear M hn hsk hcap hcm
  go_enter Tryz.func21, Tryz.ntmps21
  go_wp2_with fail
  refine (sortFunc_any ad cap n d _ HM.out HN.out hb).mono ?_
  rintro e w1 ⟨rfl, d1, hp, hs, M1, b1⟩
  have HP := hide hp
  have HS := hide hs
  have HM1 := hide M1
  have HB1 := hide b1
  clear hp hs M1 b1
  have HN1 : Hid (d1.size = n) := by have := HP.out.length_eq; rw [Array.length_toList, Array.length_toList, HN.out] at this; exact this
  go_wp2_with fail
  refine (compact_any ad cap n d1 _ HM1.out HN1.out hb HC.out HCM.out).mono ?_
  rintro e w2 ⟨k, d2, rfl, M2, hk, hs2, ht, b2⟩
  obtain ⟨C, hCt⟩ : ∃ C, d2.toList.take k = C := ⟨_, rfl⟩
  have HCT := hide hCt
  have HCC : Hid (C = compactUpTo d1 d1.size) := hCt.symm.trans ht
  have HM2 := hide M2
  have HB2 : Hid (Below ad.block w w2) := HB1.out.trans b2
  have HK : Hid (k ≤ d2.size) := by show _ ≤ _; rw [hs2]; exact hk
  have hkn : k ≤ n := by have := HN1.out; omega
  have HLC : Hid (C.length = k) := by show _ = _; rw [← hCt, List.length_take, Array.length_toList]; have := HK.out; omega
  have HSC : Hid (∀ e ∈ C, e.sku.size ≤ maxLen) := fun e he => by
    rw [HCC.out] at he
    exact HSK.out e (HP.out.mem_iff.1 ((cmp_iff d1 e).1 he))
  have HPM : Hid (∀ x, x ∈ d1.toList ↔ x ∈ d.toList) := fun x => HP.out.mem_iff
  clear hCt ht M2 b2 hs2 hk HB1 HM1
  go_wp2_with fail
  go_loopw [4, 11] (fun _ i wr => ∃ k0 : Nat, k0 ≤ k ∧ i = .int .i64 k0 ∧ Hid (AdjN C k0 ∧ Below w2.heap.size w2 wr)) (fun _ i _ => k - (intOf i).toNat)
  case atStart => exact ⟨0, Nat.zero_le _, rfl, fun i hi => by omega, Below.refl _ _⟩
  case round =>
    obtain ⟨k0, hk0, rfl, H⟩ := hrel
    rename World => w4
    have HLT : Hid (ad.block ≤ w2.heap.size) := Nat.le_of_lt HM2.out.lt
    have HM4 := hide (HM2.out.on H.out.2)
    by_cases hlt : k0 < k
    · by_cases h0 : k0 = 0
      · subst h0
        go_wp2_with fail
        refine wp_region_quiet_below (by kernel_rfl) (by kernel_rfl) ?_
        repeat (with_reducible (refine wpQuiet_step ?_); intro K hK; go_simp; (try rw [if_neg (by unfold undef; simp)]); first | (with_reducible (refine hK _ ?_); clear hK K) | (apply Exists.intro; refine ⟨fun _ => ?_, hK _ ?_⟩; (fail); clear hK K))
        with_reducible (refine wpQuiet_nil ?_)
        intro w5 hw'
        obtain ⟨⟨dq, osq⟩, hw''⟩ := hw'
        have b5 : Below w4.heap.size w4 w5 := by rw [hw'']; exact below_regrown w4 dq osq
        clear hw'' dq osq
        have H5 : Hid (AdjN C (0 + 1) ∧ Below w2.heap.size w2 w5) := ⟨fun i hi => by omega, H.out.2.trans (b5.mono H.out.2.size)⟩
        clear b5
        go_wp2_with fail
        go_roundw
        case rel => exact ⟨0 + 1, by omega, by go_num, H5⟩
        case measure => simp [intOf]; omega
      · obtain ⟨j, hj⟩ : ∃ j, k0 - 1 = j := ⟨_, rfl⟩
        have hz : IntKind.i64.wrap ((k0 : Int) - 1) = (j : Int) := by rw [IntKind.wrap_i64]; omega
        have hjn : j < k := by omega
        have hd0 : decide ((0 : Int) < (k0 : Int)) = true := decide_eq_true (by omega)
        have hpos : 0 < k0 := by omega
        have Hj : Hid (k0 = j + 1) := by show _ = _; omega
        have S4 := HM4.out.esrc k cap HK.out C HCT.out HSC.out (by omega)
        have A0 := hide (S4.2.2.1 ad rfl k0 hlt)
        have A1 := hide (S4.2.2.1 ad rfl j hjn)
        obtain ⟨x, Hx⟩ : ∃ x, Hid (C.getD k0 en0 = x) := ⟨_, rfl⟩
        obtain ⟨y, Hy⟩ : ∃ y, Hid (C.getD j en0 = y) := ⟨_, rfl⟩
        rw [Hx.out] at A0
        rw [Hy.out] at A1
        clear S4 hj h0
        have l0 : ∀ d os, (ld26 (.pointer (some (ad.add (k0 * 4))))).run Tryz.prog (Sort.grow (redrawn w4 d) os) = .ok (.agg (DC x)) (Sort.grow (redrawn w4 d) os) := fun d os => run_ld26 (A0.out.on (below_regrown w4 d os))
        have l1 : ∀ d os, (ld26 (.pointer (some (ad.add (j * 4))))).run Tryz.prog (Sort.grow (redrawn w4 d) os) = .ok (.agg (DC y)) (Sort.grow (redrawn w4 d) os) := fun d os => run_ld26 (A1.out.on (below_regrown w4 d os))
        obtain ⟨q, hq⟩ : ∃ q, sameDot y x = q := ⟨_, rfl⟩
        cases q with
        | false =>
          have HQ := hide hq
          go_wp2_with fail
          refine wp_region_quiet_below (by kernel_rfl) (by kernel_rfl) ?_
          repeat (with_reducible (refine wpQuiet_step ?_); intro K hK; go_simp; (try rw [if_neg (by unfold undef; simp)]); first | (with_reducible (refine hK _ ?_); clear hK K) | (apply Exists.intro; refine ⟨fun _ => ?_, hK _ ?_⟩; (fail); clear hK K))
          with_reducible (refine wpQuiet_nil ?_)
          intro w5 hw'
          obtain ⟨⟨dq, osq⟩, hw''⟩ := hw'
          have b5 : Below w4.heap.size w4 w5 := by rw [hw'']; exact below_regrown w4 dq osq
          clear hw'' dq osq
          have H5 : Hid (AdjN C (k0 + 1) ∧ Below w2.heap.size w2 w5) := ⟨fun i hi => by
            by_cases e : i = j
            · subst e; rw [← Hj.out, Hx.out, Hy.out, same_symm]; exact HQ.out
            · exact H.out.1 i (by have := Hj.out; omega), H.out.2.trans (b5.mono H.out.2.size)⟩
          clear b5 l0 l1
          go_wp2_with fail
          go_roundw
          case rel => exact ⟨k0 + 1, by omega, by go_num, H5⟩
          case measure => simp [intOf]; omega
        | true =>
          have HF : Hid (Settled d.toList [] 10) := (settled_clash HCC.out j (by rw [HLC.out]; have := Hj.out; omega) (by rw [← Hj.out, Hx.out, Hy.out]; exact hq)).perm HPM.out
          go_wp2_with fail
          refine wp_region_quiet_below (by kernel_rfl) (by kernel_rfl) ?_
          repeat (with_reducible (refine wpQuiet_step ?_); intro K hK; go_simp; (try rw [if_neg (by unfold undef; simp)]); first | (with_reducible (refine hK _ ?_); clear hK K) | (apply Exists.intro; refine ⟨fun _ => ?_, hK _ ?_⟩; (fail); clear hK K))
          with_reducible (refine wpQuiet_nil ?_)
          intro w5 hw'
          obtain ⟨⟨dq, osq⟩, hw''⟩ := hw'
          have b5 : Below w4.heap.size w4 w5 := by rw [hw'']; exact below_regrown w4 dq osq
          clear hw'' dq osq
          have HB5 : Hid (Below ad.block w w5) := HB2.out.trans ((H.out.2.trans (b5.mono H.out.2.size)).mono HLT.out)
          clear b5 l0 l1
          go_wp2_with fail
          go_ret2
          exact ⟨none, 0, 0, [], 10, rfl, ESrc.none _, HB5.out, fun ad h => (by cases h), HF.out⟩
    · obtain rfl : k0 = k := by omega
      have HF : Hid (Settled d.toList C 0) := (settled_done HCC.out HS.out (by rw [HLC.out]; exact H.out.1)).perm HPM.out
      have HE := hide (HM4.out.esrc k0 cap HK.out C HCT.out HSC.out (by omega))
      have HB5 : Hid (Below ad.block w w4) := HB2.out.trans (H.out.2.mono HLT.out)
      go_wp2_with fail
      go_ret2
      exact ⟨some ad, k0, cap, C, 0, rfl, HE.out, HB5.out, fun ad' h => by obtain rfl := Option.some.inj h; exact Nat.le_refl _, HF.out⟩
end Go.Proofs.YtooinnhjeloocaaGreat.K
namespace Go.Proofs.YtooinnhjeloocaaGreat.K
open Go.RowKit Go.Lib
attribute [local go_sem ↓] ld28_eq st28_eq
attribute [local go_sem] zero_EC cells_EV EC_size
/-- the first error of an entry -/
def firstE : List En → Int
  | [] => 0
  | e :: r => if ceE e = 0 then firstE r else ceE e
def okTo (L : List En) (k : Nat) : Prop := ∀ i, i < k → ceE (L.getD i en0) = 0
theorem firstE_ok (L : List En) (h : okTo L L.length) : firstE L = 0 := by
  induction L with
  | nil => rfl
  | cons e r ih =>
    have h0 := h 0 (by simp)
    simp [List.getD] at h0
    rw [firstE, if_pos h0]
    exact ih fun i hi => by have := h (i + 1) (by simpa using hi); simpa [List.getD] using this
theorem firstE_at (L : List En) (k : Nat) (hk : k < L.length) (h : okTo L k) (c : Int) (hc : ceE (L.getD k en0) = c) (h0 : c ≠ 0) : firstE L = c := by
  induction L generalizing k with
  | nil => simp at hk
  | cons e r ih =>
    cases k with
    | zero => simp [List.getD] at hc; rw [firstE, hc, if_neg h0]
    | succ k =>
      have h1 := h 0 (by omega)
      simp [List.getD] at h1
      rw [firstE, if_pos h1]
      exact ih k (by simpa using hk) (fun i hi => by have := h (i + 1) (by omega); simpa [List.getD] using this) (by simpa [List.getD] using hc)
/-- what Sort answers -/
def Sorted (L R : List En) (er : Int) : Prop := (firstE L ≠ 0 ∧ R = [] ∧ er = firstE L) ∨ (firstE L = 0 ∧ Settled L R er)
theorem Sorted.unique {L R R' : List En} {e e' : Int} (h : Sorted L R e) (h' : Sorted L R' e') : R = R' ∧ e = e' := by
  rcases h with ⟨a, b, c⟩ | ⟨a, b⟩
  · rcases h' with ⟨_, b', c'⟩ | ⟨a', _⟩
    · exact ⟨b.trans b'.symm, c.trans c'.symm⟩
    · exact absurd a' a
  · rcases h' with ⟨a', _⟩ | ⟨_, b'⟩
    · exact absurd a a'
    · exact b.unique b'
/-- a list and an error are handed back: the entries sorted -/
def GivesQ (w w' : World) (e : Ending) (L : List En) : Prop := ∃ ao n c R er, e = .returned (.tuple #[.slice ao n c, .int .i64 er]) ∧ ESrc w' ao n c R ∧ Below w.heap.size w w' ∧ (∀ ad, ao = some ad → w.heap.size ≤ ad.block) ∧ Sorted L R er
theorem ESrc.cells {w : World} {ad : Addr} {n cap : Nat} {L : List En} (hS : ESrc w (some ad) n cap L) (j : Nat) (u : Value) (hj : (ecs L)[j]? = some u) : w.cell? (ad.add j) = some u := by
  have hjl : j < L.length * 4 := by have := (List.getElem?_eq_some_iff.1 hj).1; rwa [ecs_length] at this
  have e4 := ecs_at L (j / 4) (j % 4) (by omega) (by omega)
  rw [show j / 4 * 4 + j % 4 = j by omega, hj] at e4
  have A := hS.2.2.1 ad rfl (j / 4) (by rw [← hS.1]; omega)
  have : j % 4 = 0 ∨ j % 4 = 1 ∨ j % 4 = 2 ∨ j % 4 = 3 := by omega
  rcases this with h | h | h | h
  · rw [h] at e4; rw [show j = j / 4 * 4 by omega, A.c0]; exact e4.symm
  · rw [h] at e4; have := A.c1; rw [add_add] at this; rw [show j = j / 4 * 4 + 1 by omega, this]; exact e4.symm
  · rw [h] at e4; have := A.c2; rw [add_add] at this; rw [show j = j / 4 * 4 + 2 by omega, this]; exact e4.symm
  · rw [h] at e4; have := A.c3; rw [add_add] at this; rw [show j = j / 4 * 4 + 3 by omega, this]; exact e4.symm
theorem ecs_onecell (L : List En) : ∀ u ∈ ecs L, u.oneCell' = true := by
  intro u hu
  obtain ⟨l, hl, hv⟩ := List.mem_flatten.1 hu
  obtain ⟨e, _, rfl⟩ := List.mem_map.1 hl
  exact EC_one e u hv
theorem OwnE.mr {B0 B : Nat} {w w' : World} {ad : Addr} {cap : Nat} {acc : List En} (O : OwnE B0 B w w' (some ad) cap acc) : MR w' ad acc.toArray ∧ acc.length ≤ cap ∧ cap ≤ 9223372036854775807 ∧ B ≤ ad.block := by
  rcases O.own.2 with ⟨h0, _⟩ | ⟨g, c, cur, hv, hbg, hgg, hnc, hcm, hcsz, htake⟩
  · cases h0
  · simp only [Value.slice.injEq, Option.some.injEq, true_and] at hv
    obtain ⟨rfl, rfl⟩ := hv
    refine ⟨⟨fun j hj => ?_, (Array.getElem?_eq_some_iff.1 hgg).1, rfl⟩, hnc, by unfold maxLen at hcm; omega, hbg⟩
    rw [Sort.size_flatK] at hj
    have hj' : j < acc.length * 4 := by simpa using hj
    refine ⟨?_, by simp [World.frozen?, hgg]⟩
    rw [Nat.zero_add, O.own.cellAt j (by omega), Sort.get_flatK _ _ _ _ hj]
    have e4 := ecs_at acc (j / 4) (j % 4) (by omega) (by omega)
    rw [show j / 4 * 4 + j % 4 = j by omega] at e4
    rw [e4]
    have e5 : acc.toArray[j / 4]! = acc.getD (j / 4) en0 := by
      rw [getElem!_pos acc.toArray (j / 4) (by simp; omega)]; simp [List.getD, show j / 4 < acc.length by omega]
    rw [e5]
    have : j % 4 = 0 ∨ j % 4 = 1 ∨ j % 4 = 2 ∨ j % 4 = 3 := by omega
    rcases this with h | h | h | h <;> rw [h] <;> rfl
end Go.Proofs.YtooinnhjeloocaaGreat.K
namespace Go.Proofs.YtooinnhjeloocaaGreat.K
open Go.RowKit Go.Lib
attribute [local go_sem ↓] ld28_eq st28_eq
attribute [local go_sem] zero_EC cells_EV EC_size
theorem sort_err (L : List En) (k : Nat) (c : Int) (hk : k < L.length) (h : okTo L k) (hc : ceE (L.getD k en0) = c) (h0 : c ≠ 0) : Sorted L [] c := by
  have := firstE_at L k hk h c hc h0
  exact Or.inl ⟨by rw [this]; exact h0, rfl, this.symm⟩
end Go.Proofs.YtooinnhjeloocaaGreat.K
namespace Go.Proofs
open Go.Shelf
def Tryz.growEn_ren : Go.Shelf.Ren := ⟨fun | 4 => 39 | n => n, fun | 22 => 22 | 25 => 36 | 3 => 3 | 4 => 4 | 9 => 9 | 20 => 20 | 0 => 0 | n => n, fun | n => n⟩
theorem Tryz.growEn : Go.Proofs.Lays8.n4 Tryz.prog Tryz.growEn_ren := {
  mixed := by kernel_rfl
  f4 := ⟨Tryz.f39.name, by decide, Tryz.func39.trans (congrArg some (by kernel_rfl))⟩
  t0 := Tryz.underlying0
  a0 := Tryz.isAgg0
  z0 := Tryz.sizeOf0
  v0 := Tryz.zeroValue0
  t3 := Tryz.underlying3
  a3 := Tryz.isAgg3
  z3 := Tryz.sizeOf3
  v3 := Tryz.zeroValue3
  t4 := Tryz.underlying4
  a4 := Tryz.isAgg4
  z4 := Tryz.sizeOf4
  v4 := Tryz.zeroValue4
  t9 := Tryz.underlying9
  a9 := Tryz.isAgg9
  z9 := Tryz.sizeOf9
  v9 := Tryz.zeroValue9
  t20 := Tryz.underlying20
  a20 := Tryz.isAgg20
  z20 := Tryz.sizeOf20
  v20 := Tryz.zeroValue20
  t22 := Tryz.underlying22
  a22 := Tryz.isAgg22
  z22 := Tryz.sizeOf22
  v22 := Tryz.zeroValue22 }
end Go.Proofs
