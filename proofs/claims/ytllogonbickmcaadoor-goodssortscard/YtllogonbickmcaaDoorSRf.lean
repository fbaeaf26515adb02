/- The reference's Sort: its contract. -/
import Derived.Test.YtllogonbickmcaaDoorSPr
import Derived.Lib.QuietBelow
namespace Go.Proofs.YtllogonbickmcaaDoor
open Go.RowKit Go.Sort Go.Lib

/-- of two lists in order so many have been merged -/
structure MInv (A B : List TS) (i j : Nat) (acc : List TS) : Prop where
  asc : AscS acc
  mem : ∀ x, x ∈ acc ↔ x ∈ A.take i ∨ x ∈ B.take j
  lo : ∀ x, x ∈ acc → ∀ k, i ≤ k → k < A.length → cS x (A.getD k dS) < 0
  hi : ∀ x, x ∈ acc → ∀ k, j ≤ k → k < B.length → cS x (B.getD k dS) < 0
  len : acc.length ≤ i + j
theorem MInv.start (A B : List TS) : MInv A B 0 0 [] := ⟨List.Pairwise.nil, by simp, (fun x hx => by cases hx), (fun x hx => by cases hx), Nat.le_refl _⟩
theorem asc_at {A : List TS} (h : AscS A) (i k : Nat) (hik : i < k) (hk : k < A.length) : cS (A.getD i dS) (A.getD k dS) < 0 := by
  have := List.pairwise_iff_getElem.1 h i k (by omega) hk hik
  simpa [List.getD, hk, show i < A.length by omega] using this
theorem mem_take_succ (A : List TS) (i : Nat) (h : i < A.length) (x : TS) : x ∈ A.take (i + 1) ↔ x ∈ A.take i ∨ x = A.getD i dS := by
  rw [List.take_succ_eq_append_getElem h, List.mem_append, List.mem_singleton]; simp [List.getD, h]
theorem snoc_asc {acc : List TS} {e : TS} (h : AscS acc) (hl : ∀ x ∈ acc, cS x e < 0) : AscS (acc ++ [e]) :=
  List.pairwise_append.2 ⟨h, List.pairwise_singleton _ _, fun x hx y hy => by obtain rfl := List.mem_singleton.1 hy; exact hl x hx⟩
theorem MInv.left {A B acc : List TS} {i j : Nat} (h : MInv A B i j acc) (hA : AscS A) (hB : AscS B) (hi : i < A.length) (hc : j < B.length → cS (A.getD i dS) (B.getD j dS) < 0) : MInv A B (i + 1) j (acc ++ [A.getD i dS]) := by
  refine ⟨snoc_asc h.asc (fun x hx => h.lo x hx i (Nat.le_refl _) hi), fun x => ?_, fun x hx k hk hkl => ?_, fun x hx k hk hkl => ?_, by rw [List.length_append, List.length_singleton]; have := h.len; omega⟩
  · rw [mem_take_succ A i hi]
    simp only [List.mem_append, List.mem_singleton, h.mem x]
    constructor
    · rintro ((a | b) | c)
      · exact Or.inl (Or.inl a)
      · exact Or.inr b
      · exact Or.inl (Or.inr c)
    · rintro ((a | b) | c)
      · exact Or.inl (Or.inl a)
      · exact Or.inr b
      · exact Or.inl (Or.inr c)
  · rcases List.mem_append.1 hx with a | a
    · exact h.lo x a k (by omega) hkl
    · obtain rfl := List.mem_singleton.1 a; exact asc_at hA i k (by omega) hkl
  · rcases List.mem_append.1 hx with a | a
    · exact h.hi x a k hk hkl
    · obtain rfl := List.mem_singleton.1 a
      have h1 := hc (by omega)
      by_cases e : k = j
      · rw [e]; exact h1
      · exact lt_le h1 (Int.le_of_lt (asc_at hB j k (by omega) hkl))
theorem MInv.right {A B acc : List TS} {i j : Nat} (h : MInv A B i j acc) (hA : AscS A) (hB : AscS B) (hj : j < B.length) (hc : i < A.length → cS (B.getD j dS) (A.getD i dS) < 0) : MInv A B i (j + 1) (acc ++ [B.getD j dS]) := by
  refine ⟨snoc_asc h.asc (fun x hx => h.hi x hx j (Nat.le_refl _) hj), fun x => ?_, fun x hx k hk hkl => ?_, fun x hx k hk hkl => ?_, by rw [List.length_append, List.length_singleton]; have := h.len; omega⟩
  · rw [mem_take_succ B j hj]
    simp only [List.mem_append, List.mem_singleton, h.mem x]
    constructor
    · rintro ((a | b) | c)
      · exact Or.inl a
      · exact Or.inr (Or.inl b)
      · exact Or.inr (Or.inr c)
    · rintro (a | b | c)
      · exact Or.inl (Or.inl a)
      · exact Or.inl (Or.inr b)
      · exact Or.inr c
  · rcases List.mem_append.1 hx with a | a
    · exact h.lo x a k hk hkl
    · obtain rfl := List.mem_singleton.1 a
      have h1 := hc (by omega)
      by_cases e : k = i
      · rw [e]; exact h1
      · exact lt_le h1 (Int.le_of_lt (asc_at hA i k (by omega) hkl))
  · rcases List.mem_append.1 hx with a | a
    · exact h.hi x a k (by omega) hkl
    · obtain rfl := List.mem_singleton.1 a; exact asc_at hB j k (by omega) hkl
theorem MInv.both {A B acc : List TS} {i j : Nat} (h : MInv A B i j acc) (hA : AscS A) (hB : AscS B) (hi : i < A.length) (hj : j < B.length) (hc : A.getD i dS = B.getD j dS) : MInv A B (i + 1) (j + 1) (acc ++ [A.getD i dS]) := by
  refine ⟨snoc_asc h.asc (fun x hx => h.lo x hx i (Nat.le_refl _) hi), fun x => ?_, fun x hx k hk hkl => ?_, fun x hx k hk hkl => ?_, by rw [List.length_append, List.length_singleton]; have := h.len; omega⟩
  · rw [mem_take_succ A i hi, mem_take_succ B j hj]
    simp only [List.mem_append, List.mem_singleton, h.mem x, ← hc]
    constructor
    · rintro ((a | b) | c)
      · exact Or.inl (Or.inl a)
      · exact Or.inr (Or.inl b)
      · exact Or.inl (Or.inr c)
    · rintro ((a | b) | (c | d))
      · exact Or.inl (Or.inl a)
      · exact Or.inr b
      · exact Or.inl (Or.inr c)
      · exact Or.inr d
  · rcases List.mem_append.1 hx with a | a
    · exact h.lo x a k (by omega) hkl
    · obtain rfl := List.mem_singleton.1 a; exact asc_at hA i k (by omega) hkl
  · rcases List.mem_append.1 hx with a | a
    · exact h.hi x a k (by omega) hkl
    · obtain rfl := List.mem_singleton.1 a; rw [hc]; exact asc_at hB j k (by omega) hkl
theorem MInv.done {A B acc L : List TS} {i j h : Nat} (hI : MInv A B i j acc) (hi : A.length ≤ i) (hj : B.length ≤ j) (hA : SortS (L.take h) A) (hB : SortS (L.drop h) B) : SortS L acc := by
  refine ⟨hI.asc, fun x => ?_⟩
  rw [hI.mem x, List.take_of_length_le hi, List.take_of_length_le hj, hA.2 x, hB.2 x, ← List.mem_append, List.take_append_drop]
theorem SSrc.take {w : World} {b o m c : Nat} {L : List TS} (h : SSrc w (some ⟨b, o, none⟩) m c L) (k : Nat) (hk : k ≤ m) : SSrc w (some ⟨b, o, none⟩) k c (L.take k) := by
  refine ⟨by rw [List.length_take, h.len]; omega, fun e => (by cases e), fun ad ha t ht => ?_, by have := h.cap; omega, h.room, by have := h.big; omega⟩
  have := h.cell ad ha t (by omega)
  rwa [show (L.take k).getD t dS = L.getD t dS by simp [List.getD, ht]]
theorem SSrc.drop {w : World} {b o m c : Nat} {L : List TS} (h : SSrc w (some ⟨b, o, none⟩) m c L) (k : Nat) (hk : k ≤ m) : SSrc w (some ⟨b, o + k, none⟩) (m - k) (c - k) (L.drop k) := by
  refine ⟨by rw [List.length_drop, h.len], fun e => (by cases e), fun ad ha t ht => ?_, by have := h.cap; omega, by have := h.room; omega, by have := h.big; omega⟩
  obtain rfl := Option.some.inj ha
  have := h.cell _ rfl (k + t) (by omega)
  rw [Addr.add_lit] at this ⊢
  rw [show o + k + t = o + (k + t) by omega]
  rwa [show (L.drop k).getD t dS = L.getD (k + t) dS by simp [List.getD, List.getElem?_drop]]
theorem SSrc.spot {w : World} {ad : Addr} {m c : Nat} {L : List TS} (h : SSrc w (some ad) m c L) (hm : 0 < m) : ∃ b o, ad = ⟨b, o, none⟩ := by
  have := World.cell?_spot (h.cell ad rfl 0 hm)
  obtain ⟨b, o, s⟩ := ad
  have hs : s = none := by simpa [Addr.add] using this
  exact ⟨b, o, by rw [hs]⟩
theorem SSrc.one (w : World) (x : TS) : SSrc (w.alloc (.cells #[.string x.1] 9)) (some ⟨w.heap.size, 0, none⟩) 1 1 [x] := by
  refine ⟨rfl, fun e => (by cases e), fun ad ha t ht => ?_, Nat.le_refl _, by unfold maxLen; omega, by omega⟩
  obtain rfl := Option.some.inj ha
  obtain rfl : t = 0 := by omega
  rw [Addr.add_lit]
  simp
theorem sortS_one (x : TS) : SortS [x] [x] := ⟨List.pairwise_singleton _ _, fun _ => Iff.rfl⟩
set_option maxRecDepth 100000 in
set_option maxHeartbeats 8000000 in
theorem refSort_all (N : Nat) : ∀ (n : Nat), n ≤ N → ∀ (ao : Option Addr) (cap : Nat) (L : List TS) (w : World), SSrc w ao n cap L → Calls Tryd.prog 5 #[.slice ao n cap] w fun x w' => GivesL w w' x L := by
  induction N with
  | zero =>
    intro n hn ao cap L w hS
    obtain rfl : n = 0 := by omega
    obtain rfl : L = [] := List.eq_nil_of_length_eq_zero hS.len
    have HF : Hid (GivesL w w (.returned (.slice none 0 0)) []) := ⟨none, 0, 0, [], rfl, SSrc.empty _, Below.refl _ _, fun ad h => (by cases h), sortS_nil, Nat.le_refl _⟩
    clear hS
    go_enter Tryd.func5, Tryd.ntmps5
    go_wp2_with fail
    go_ret
    exact HF.out
  | succ N ih =>
    intro n hn ao cap L w hS
    by_cases h0 : n ≤ N
    · exact ih n h0 ao cap L w hS
    · obtain rfl : n = N + 1 := by omega
      by_cases h1 : N = 0
      · subst h1
        obtain ⟨ad, rfl, c0⟩ := hS.at 0 (by omega)
        obtain ⟨b, o, rfl⟩ := hS.spot (by omega)
        obtain ⟨x, rfl⟩ : ∃ x, L = [x] := by
          have := hS.len
          match L, this with
          | [x], _ => exact ⟨x, rfl⟩
        rw [Addr.add_lit] at c0
        simp [List.getD] at c0
        have HF : Hid (GivesL w (w.alloc (.cells #[.string x.1] 9)) (.returned (.slice (some ⟨w.heap.size, 0, none⟩) 1 1)) [x]) := ⟨_, 1, 1, [x], rfl, SSrc.one w x, below_new _ _, fun ad h => by obtain rfl := Option.some.inj h; exact Nat.le_refl _, sortS_one x, Nat.le_refl _⟩
        clear hS
        go_enter Tryd.func5, Tryd.ntmps5
        go_wp2_with fail
        go_ret
        exact HF.out
      · obtain ⟨ad, rfl, _⟩ := hS.at 0 (by omega)
        obtain ⟨b, o, rfl⟩ := hS.spot (by omega)
        obtain ⟨M, HM⟩ : ∃ M, Hid (N + 1 = M) := ⟨_, rfl⟩
        obtain ⟨h, hd2⟩ : ∃ h, M / 2 = h := ⟨_, rfl⟩
        have hd1 : (M : Int) / 2 = (h : Int) := by omega
        have hM : 2 ≤ M := by have := HM.out; omega
        have hh1 : h ≤ M := by omega
        have hh2 : 1 ≤ h := by omega
        have hh3 : h < M := by omega
        have IH := hide ih
        have hbig := hS.big
        have hcap := hS.cap
        have hroom := hS.room
        rw [HM.out] at hS hn hbig hcap ⊢
        have HS := hide hS
        have hMN : M ≤ N + 1 := by have := HM.out; omega
        unfold maxLen at hroom
        clear ih hS h0 h1 hn
        go_enter Tryd.func5, Tryd.ntmps5
        go_wp2_with fail
        refine (IH.out h (by omega) _ _ (L.take h) w (HS.out.take h hh1)).mono ?_
        rintro x w1 ⟨aa, na, ca, A, rfl, SA, bA, _, tA, lA⟩
        have HA := hide tA
        have HSA := hide SA
        have HB1 := hide bA
        clear SA bA tA
        go_wp2_with fail
        refine (IH.out (M - h) (by omega) _ _ (L.drop h) w1 ((HS.out.below HB1.out).drop h hh1)).mono ?_
        rintro x w2 ⟨ab, nb, cb, B, rfl, SB, bB, _, tB, lB⟩
        have HB := hide tB
        have HSB := hide SB
        have HSA2 := hide (HSA.out.below bB)
        have HB2 := hide (HB1.out.trans (bB.mono HB1.out.size))
        have HLA : Hid (A.length = na) := HSA.out.len
        have HLB : Hid (B.length = nb) := SB.len
        have hnab : na + nb ≤ M := by rw [SB.len, List.length_drop, HS.out.len] at lB; rw [HSA.out.len, List.length_take, HS.out.len] at lA; omega
        have HLM : Hid (L.length = M) := HS.out.len
        clear lA lB
        have hna := HSA.out.big
        have hnb := SB.big
        clear SB bB tB hd1 hd2 hcap hroom HSA HB1 IH HS
        go_wp2_with fail
        go_loopw [6, 7, 8, 9] (fun v i j _ wr => ∃ (i' j' : Nat) (ap : Option Addr) (c : Nat) (acc : List TS), i' ≤ na ∧ j' ≤ nb ∧ v = .slice ap acc.length c ∧ i = .int .i64 i' ∧ j = .int .i64 j' ∧ Hid (MInv A B i' j' acc ∧ OwnS w2.heap.size w2.heap.size w2 wr ap c acc)) (fun _ i j _ _ => (na - (intOf i).toNat) + (nb - (intOf j).toNat))
        case atStart => exact ⟨0, 0, none, 0, [], Nat.zero_le _, Nat.zero_le _, rfl, rfl, rfl, MInv.start A B, OwnS.nil (Below.refl _ _) (Nat.le_refl _) (Nat.le_refl _)⟩
        case round =>
          obtain ⟨i, j, ap, c, acc, hi, hj, rfl, rfl, rfl, H⟩ := hrel
          rename World => w4
          have hal := H.out.1.len
          by_cases hi1 : i < na
          · obtain ⟨ada, rfl, cA⟩ := (HSA2.out.below H.out.2.below).at i hi1
            obtain ⟨x, Hx⟩ : ∃ x, Hid (A.getD i dS = x) := ⟨_, rfl⟩
            rw [Hx.out] at cA
            have hine : ((i : Int) == (na : Int)) = false := by simp; omega
            by_cases hj1 : j < nb
            · obtain ⟨adb, rfl, cB⟩ := (HSB.out.below H.out.2.below).at j hj1
              obtain ⟨y, Hy⟩ : ∃ y, Hid (B.getD j dS = y) := ⟨_, rfl⟩
              rw [Hy.out] at cB
              have hjne : ((j : Int) == (nb : Int)) = false := by simp; omega
              have kA := cell_regrown cA
              have kB := cell_regrown cB
              obtain ⟨q, Hq⟩ : ∃ q, Hid (cS x y = q) := ⟨_, rfl⟩
              have cD : ∀ d os, Calls Tryd.prog 10 #[.string x.1, .string y.1] (Sort.grow (redrawn w4 d) os) fun e w'' => e = .returned (.int .i64 q) ∧ ∃ p : Regrown, w'' = Sort.grow (redrawn w4 p.d) p.os := fun d os => by
                have := refCompare_any x.1 y.1 (Sort.grow (redrawn w4 d) os) x.2 y.2
                have e : cmpF x.1.data.toList y.1.data.toList = q := Hq.out
                rw [e] at this
                exact Calls.regrown_of this
              by_cases hq1 : q < 0
              · have HN : Hid (MInv A B (i + 1) j (acc ++ [x])) := by have := H.out.1.left HA.out.1 HB.out.1 (by rw [HLA.out]; exact hi1) (fun _ => by rw [Hx.out, Hy.out, Hq.out]; exact hq1); rwa [Hx.out] at this
                have hq0 : (q == 0) = false := by simp; omega
                have hq2 : q ≤ 0 := by omega
                clear hq1
                go_wp2_with fail
                refine wp_region_quiet_below (by kernel_rfl) (by kernel_rfl) ?_
                repeat (with_reducible (refine wpQuiet_step ?_); intro K hK; go_simp; (try rw [if_neg (by unfold undef; simp)]); first | (with_reducible (refine hK _ ?_); clear hK K) | (apply Exists.intro; refine ⟨fun _ => ?_, hK _ ?_⟩; (go_at_call 10; exact cD _ _); clear hK K))
                with_reducible (refine wpQuiet_nil ?_)
                intro w5 hw'
                obtain ⟨⟨dq, osq⟩, hw''⟩ := hw'
                have b5 : Below w4.heap.size w4 w5 := by rw [hw'']; exact below_regrown w4 dq osq
                clear hw'' dq osq
                have HO := hide (H.out.2.later b5)
                have l5 : w5.cell? (ada.add i) = some (.string x.1) := by rw [b5.cell (World.block_lt_of_cell? _ _ cA)]; exact cA
                clear b5 cA cB kA kB cD
                go_wp2_with (at_builtin; refine HO.out.append x _ rfl (by omega) rfl (.tmp 78) (.tmp 83) rfl acc.length rfl rfl rfl ?_; intro g6 c6 w6 O6)
                go_roundw
                case rel => exact ⟨i + 1, j, some ⟨g6, 0, none⟩, c6, acc ++ [x], by omega, by omega, by simp, by go_num, by go_num, HN.out, O6⟩
                case measure => simp [intOf]; omega
              · by_cases hq2 : q = 0
                · have HN : Hid (MInv A B (i + 1) (j + 1) (acc ++ [x])) := by have := H.out.1.both HA.out.1 HB.out.1 (by rw [HLA.out]; exact hi1) (by rw [HLB.out]; exact hj1) (by rw [Hx.out, Hy.out]; exact (cS_zero x y).1 (by rw [Hq.out]; exact hq2)); rwa [Hx.out] at this
                  subst hq2
                  clear hq1
                  go_wp2_with fail
                  refine wp_region_quiet_below (by kernel_rfl) (by kernel_rfl) ?_
                  repeat (with_reducible (refine wpQuiet_step ?_); intro K hK; go_simp; (try rw [if_neg (by unfold undef; simp)]); first | (with_reducible (refine hK _ ?_); clear hK K) | (apply Exists.intro; refine ⟨fun _ => ?_, hK _ ?_⟩; (go_at_call 10; exact cD _ _); clear hK K))
                  with_reducible (refine wpQuiet_nil ?_)
                  intro w5 hw'
                  obtain ⟨⟨dq, osq⟩, hw''⟩ := hw'
                  have b5 : Below w4.heap.size w4 w5 := by rw [hw'']; exact below_regrown w4 dq osq
                  clear hw'' dq osq
                  have HO := hide (H.out.2.later b5)
                  have l5 : w5.cell? (ada.add i) = some (.string x.1) := by rw [b5.cell (World.block_lt_of_cell? _ _ cA)]; exact cA
                  clear b5 cA cB kA kB cD
                  go_wp2_with (at_builtin; refine HO.out.append x _ rfl (by omega) rfl (.tmp 78) (.tmp 83) rfl acc.length rfl rfl rfl ?_; intro g6 c6 w6 O6)
                  go_roundw
                  case rel => exact ⟨i + 1, j + 1, some ⟨g6, 0, none⟩, c6, acc ++ [x], by omega, by omega, by simp, by go_num, by go_num, HN.out, O6⟩
                  case measure => simp [intOf]; omega
                · have HN : Hid (MInv A B i (j + 1) (acc ++ [y])) := by have := H.out.1.right HA.out.1 HB.out.1 (by rw [HLB.out]; exact hj1) (fun _ => by rw [Hx.out, Hy.out, cS_anti, Hq.out]; omega); rwa [Hy.out] at this
                  have hq3 : ¬ q ≤ 0 := by omega
                  clear hq1 hq2
                  go_wp2_with fail
                  refine wp_region_quiet_below (by kernel_rfl) (by kernel_rfl) ?_
                  repeat (with_reducible (refine wpQuiet_step ?_); intro K hK; go_simp; (try rw [if_neg (by unfold undef; simp)]); first | (with_reducible (refine hK _ ?_); clear hK K) | (apply Exists.intro; refine ⟨fun _ => ?_, hK _ ?_⟩; (go_at_call 10; exact cD _ _); clear hK K))
                  with_reducible (refine wpQuiet_nil ?_)
                  intro w5 hw'
                  obtain ⟨⟨dq, osq⟩, hw''⟩ := hw'
                  have b5 : Below w4.heap.size w4 w5 := by rw [hw'']; exact below_regrown w4 dq osq
                  clear hw'' dq osq
                  have HO := hide (H.out.2.later b5)
                  have l5 : w5.cell? (adb.add j) = some (.string y.1) := by rw [b5.cell (World.block_lt_of_cell? _ _ cB)]; exact cB
                  clear b5 cA cB kA kB cD
                  go_wp2_with (at_builtin; refine HO.out.append y _ rfl (by omega) rfl (.tmp 91) (.tmp 96) rfl acc.length rfl rfl rfl ?_; intro g6 c6 w6 O6)
                  go_roundw
                  case rel => exact ⟨i, j + 1, some ⟨g6, 0, none⟩, c6, acc ++ [y], by omega, by omega, by simp, by go_num, by go_num, HN.out, O6⟩
                  case measure => simp [intOf]; omega
            · obtain rfl : j = nb := by omega
              have HN : Hid (MInv A B (i + 1) j (acc ++ [x])) := by have := H.out.1.left HA.out.1 HB.out.1 (by rw [HLA.out]; exact hi1) (fun h => by rw [HLB.out] at h; omega); rwa [Hx.out] at this
              go_wp2_with (at_builtin; refine H.out.2.append x _ rfl (by omega) rfl (.tmp 58) (.tmp 63) rfl acc.length rfl rfl rfl ?_; intro g6 c6 w6 O6)
              go_roundw
              case rel => exact ⟨i + 1, j, some ⟨g6, 0, none⟩, c6, acc ++ [x], by omega, by omega, by simp, by go_num, by go_num, HN.out, O6⟩
              case measure => simp [intOf]; omega
          · obtain rfl : i = na := by omega
            by_cases hj1 : j < nb
            · obtain ⟨adb, rfl, cB⟩ := (HSB.out.below H.out.2.below).at j hj1
              obtain ⟨y, Hy⟩ : ∃ y, Hid (B.getD j dS = y) := ⟨_, rfl⟩
              rw [Hy.out] at cB
              have HN : Hid (MInv A B i (j + 1) (acc ++ [y])) := by have := H.out.1.right HA.out.1 HB.out.1 (by rw [HLB.out]; exact hj1) (fun h => by rw [HLA.out] at h; omega); rwa [Hy.out] at this
              go_wp2_with (at_builtin; refine H.out.2.append y _ rfl (by omega) rfl (.tmp 45) (.tmp 50) rfl acc.length rfl rfl rfl ?_; intro g6 c6 w6 O6)
              go_roundw
              case rel => exact ⟨i, j + 1, some ⟨g6, 0, none⟩, c6, acc ++ [y], by omega, by omega, by simp, by go_num, by go_num, HN.out, O6⟩
              case measure => simp [intOf]; omega
            · obtain rfl : j = nb := by omega
              have HF : Hid (SortS L acc) := H.out.1.done (by rw [HLA.out]; exact Nat.le_refl _) (by rw [HLB.out]; exact Nat.le_refl _) HA.out HB.out
              obtain ⟨S4, F4⟩ := H.out.2.src (by omega)
              have HN : Hid (GivesL w w4 (.returned (.slice ap acc.length c)) L) := ⟨ap, acc.length, c, acc, rfl, S4, HB2.out.trans (H.out.2.below.mono HB2.out.size), fun ad h => Nat.le_trans HB2.out.size (F4 ad h), HF.out, by rw [HLM.out]; omega⟩
              clear S4 F4
              go_wp2_with fail
              go_ret
              exact HN.out
end Go.Proofs.YtllogonbickmcaaDoor
