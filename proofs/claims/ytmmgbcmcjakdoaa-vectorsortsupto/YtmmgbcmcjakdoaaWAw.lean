/- counts' over, the reference's Equal, vector's Merge, awake: their contracts. -/
import Derived.Test.YtmmgbcmcjakdoaaWLi
namespace Go.Proofs.Ytmmgbcmcjakdoaa
open Go.RowKit V
attribute [local go_sem ↓] ld56_eq st56_eq
attribute [local go_sem] zeros_VC cells_VA

def fmax (f g : Nat → Int) : Nat → Int := fun r => if f r < g r then g r else f r
def fmin (f g : Nat → Int) : Nat → Int := fun r => if g r < f r then g r else f r
/-- the first k numbers of the one, then those of the other -/
def fmix (k : Nat) (f g : Nat → Int) : Nat → Int := fun r => if r < k then f r else g r
theorem fmix_next (k : Nat) (f g : Nat → Int) (z : Int) (hz : z = f k) : ∀ r, r < 16 → fset (fmix k f g) k z r = fmix (k + 1) f g r := by
  intro r _
  unfold fset fmix
  by_cases e : r = k
  · subst e; simp [hz]
  · by_cases h : r < k
    · simp [e, h]; omega
    · simp [e, h]; omega
theorem fmix_here (k : Nat) (f g : Nat → Int) : fmix k f g k = g k := by simp [fmix]
theorem fmix_all (f g : Nat → Int) : ∀ r, r < 16 → fmix 16 f g r = f r := by intro r h; simp [fmix, h]


set_option maxHeartbeats 1600000 in
theorem over_any (f g : Nat → Int) (w : World) :
    Calls Try.prog 30 #[VA f, VA g] w fun e w' => e = .returned (VA (fmax f g)) ∧ Below w.heap.size w w' := by
  go_enter Try.func30, Try.ntmps30
  go_wp2
  go_loopw [6] (fun i wr => ∃ k : Nat, k ≤ 16 ∧ i = .int .i64 k ∧ Hid (Arr wr w.heap.size 42 (fmix k (fmax f g) f)) ∧ Hid (Arr wr (w.heap.size + 1) 42 g) ∧ Hid (Arr wr (w.heap.size + 1 + 1) 42 fun _ => 0) ∧ Hid (Below w.heap.size w wr)) (fun i _ => 16 - (intOf i).toNat)
  case atStart =>
    refine ⟨0, Nat.zero_le _, rfl, (((arr_new w 42 f).alloc _).alloc _).congr (fun r _ => by simp [fmix]), (arr_new2 w _ 42 g).alloc _, ?_, (((Below.refl _ _).alloc (Nat.le_refl _) _).alloc (by simp) _).alloc (by simp; omega) _⟩
    have := arr_new2 (w.alloc (.cells (VC f) 42)) (.cells (VC g) 42) 42 (fun _ => 0)
    rw [World.size_alloc] at this
    exact this
  case round =>
    obtain ⟨k, hk, rfl, A, B, C, HB⟩ := hrel
    by_cases hlt : k < 16
    · have c1 := A.out.cell k hlt
      rw [fmix_here] at c1
      have z1 := A.out.frozen k
      have c2 := B.out.cell k hlt
      obtain ⟨y, HY⟩ : ∃ y, Hid (f k = y) := ⟨_, rfl⟩
      obtain ⟨z, HZ⟩ : ∃ z, Hid (g k = z) := ⟨_, rfl⟩
      rw [HY.out] at c1
      rw [HZ.out] at c2
      by_cases h : y < z
      · have HM : Hid (max y z = fmax f g k) := by show _ = _; unfold fmax; rw [HY.out, HZ.out, if_pos h]; omega
        go_wp2
        go_region
        go_wp2
        go_roundw
        case rel =>
          have A' := (A.out.set k (max y z)).congr (fmix_next k _ _ (max y z) HM.out)
          exact ⟨k + 1, by omega, by go_num, A', B.out.setOther _ _ (by simp), C.out.setOther _ _ (by simp; omega), below_drew (HB.out.setCell (by simp) _)⟩
        case measure => simp [intOf]; omega
      · have HM : Hid (max y z = fmax f g k) := by show _ = _; unfold fmax; rw [HY.out, HZ.out, if_neg h]; omega
        go_wp2
        go_region
        go_wp2
        go_roundw
        case rel =>
          have A' := (A.out.set k (max y z)).congr (fmix_next k _ _ (max y z) HM.out)
          exact ⟨k + 1, by omega, by go_num, A', B.out.setOther _ _ (by simp), C.out.setOther _ _ (by simp; omega), below_drew (HB.out.setCell (by simp) _)⟩
        case measure => simp [intOf]; omega
    · obtain rfl : k = 16 := by omega
      have A' := A.out.congr (fmix_all _ _)
      have l1 := run_ld56 A'
      have s1 := run_st56 (f' := fmax f g) C.out
      go_wp2
      exact bodyPost_ret (v := VA (fmax f g)) (res56 Try.results30 rfl (C.out.setRow)) rfl ⟨rfl, V.below_setRow HB.out (by omega)⟩

theorem take_snoc (l : List Int) (k : Nat) (h : k < l.length) : l.take (k + 1) = l.take k ++ [l.getD k 0] := by
  rw [List.take_succ_eq_append_getElem h]; simp [List.getD, h]
theorem src_drew {w : World} {ao : Option Addr} {n c : Nat} {Z : List Int} (S : Src w ao n c Z) : Src w.drew ao n c Z := S

set_option maxHeartbeats 1600000 in
theorem equal_any (ao bo : Option Addr) (n m c d : Nat) (A B : List Int) (w : World) (hA : Src w ao n c A) (hB : Src w bo m d B) (hn : n ≤ maxLen) :
    Calls Try.prog 15 #[.slice ao n c, .slice bo m d] w fun e w' => e = .returned (.bool (decide (A = B))) ∧ Below w.heap.size w w' := by
  have HA := hide hA
  have HB := hide hB
  unfold maxLen at hn
  by_cases hnm : n = m
  · subst hnm
    clear hA hB
    go_enter Try.func15, Try.ntmps15
    go_wp2
    go_loopw [5] (fun i wr => ∃ k : Nat, k ≤ n ∧ i = .int .i64 k ∧ Hid (A.take k = B.take k) ∧ Hid (Below w.heap.size w wr)) (fun i _ => n - (intOf i).toNat)
    case atStart => exact ⟨0, Nat.zero_le _, rfl, rfl, Below.refl _ _⟩
    case round =>
      obtain ⟨k, hk, rfl, HT, HW⟩ := hrel
      by_cases hlt : k < n
      · obtain ⟨ad, rfl, ca⟩ := (HA.out.below HW.out).at k hlt
        obtain ⟨bd, rfl, cb⟩ := (HB.out.below HW.out).at k hlt
        have t1 := hide (take_snoc A k (by have := HA.out.1; omega))
        have t2 := hide (take_snoc B k (by have := HB.out.1; omega))
        obtain ⟨x, HX⟩ : ∃ x, Hid (A.getD k 0 = x) := ⟨_, rfl⟩
        obtain ⟨y, HY⟩ : ∃ y, Hid (B.getD k 0 = y) := ⟨_, rfl⟩
        rw [HX.out] at ca t1
        rw [HY.out] at cb t2
        by_cases he : x = y
        · have he' : (x != y) = false := by simp [he]
          have HE := hide he
          clear he
          go_wp2
          go_region
          go_wp2
          go_roundw
          case rel => exact ⟨k + 1, by omega, by go_num, by show _ = _; rw [t1.out, t2.out, HT.out, HE.out], below_drew HW.out⟩
          case measure => simp [intOf]; omega
        · have he' : (x != y) = true := by simp [he]
          have HF : Hid (decide (A = B) = false) := by
            show _ = _
            rw [decide_eq_false_iff_not]
            rintro rfl
            exact he (HX.out.symm.trans HY.out)
          clear he
          go_wp2
          go_region
          go_wp2
          go_ret
          exact ⟨ret_bool HF.out.symm, below_drew HW.out⟩
      · have HF : Hid (decide (A = B) = true) := by
          show _ = _
          rw [decide_eq_true_iff]
          have h := HT.out
          rwa [List.take_of_length_le (by have := HA.out.1; omega), List.take_of_length_le (by have := HB.out.1; omega)] at h
        go_wp2
        go_ret
        exact ⟨ret_bool HF.out.symm, HW.out⟩
  · have hne : ((n : Int) != (m : Int)) = true := by simp; omega
    have HF : Hid (decide (A = B) = false) := by
      show _ = _
      rw [decide_eq_false_iff_not]
      rintro rfl
      exact hnm (hA.1.symm.trans hB.1)
    clear hnm hA hB
    go_enter Try.func15, Try.ntmps15
    go_wp2
    go_ret
    exact ⟨ret_bool HF.out.symm, Below.refl _ _⟩
/-- a list of lists: each row, and its numbers -/
structure RowsL (w : World) (ao : Option Addr) (m c : Nat) (A : Nat → Option Addr) (N C : Nat → Nat) (Z : Nat → List Int) : Prop where
  nil : ao = none → m = 0
  cell : ∀ ad, ao = some ad → ∀ t, t < m → w.cell? (ad.add t) = some (.slice (A t) (N t) (C t))
  src : ∀ t, t < m → Src w (A t) (N t) (C t) (Z t)
theorem RowsL.below {w w' : World} {ao : Option Addr} {m c : Nat} {A : Nat → Option Addr} {N C : Nat → Nat} {Z : Nat → List Int} (h : RowsL w ao m c A N C Z) (hb : Below w.heap.size w w') : RowsL w' ao m c A N C Z :=
  ⟨h.nil, fun ad ha t ht => (hb.cell (World.block_lt_of_cell? w _ (h.cell ad ha t ht))).trans (h.cell ad ha t ht), fun t ht => (h.src t ht).below hb⟩
def mergeF (Z : Nat → List Int) : Nat → (Nat → Int)
  | 0 => fun _ => 0
  | k + 1 => fmax (mergeF Z k) (at' (Z k))

set_option maxHeartbeats 1600000 in
theorem merge_any (ao : Option Addr) (m c : Nat) (A : Nat → Option Addr) (N C : Nat → Nat) (Z : Nat → List Int) (w : World) (hR : RowsL w ao m c A N C Z) (hm : m ≤ maxLen) :
    Calls Try.prog 18 #[.slice ao m c] w fun e w' => Gives w w' e (short (mergeF Z m)) := by
  have HR := hide hR
  unfold maxLen at hm
  clear hR
  go_enter Try.func18, Try.ntmps18
  go_wp2_with fail
  go_loopw [8] (fun i wr => ∃ k : Nat, k ≤ m ∧ i = .int .i64 k ∧ Hid (Arr wr w.heap.size 42 (mergeF Z k)) ∧ Hid (Below w.heap.size w wr)) (fun i _ => m - (intOf i).toNat)
  case atStart => exact ⟨0, Nat.zero_le _, rfl, arr_new w 42 _, (Below.refl _ _).alloc (Nat.le_refl _) _⟩
  case round =>
    obtain ⟨k, hk, rfl, HA, HB⟩ := hrel
    by_cases hlt : k < m
    · obtain ⟨ad, rfl⟩ : ∃ ad, ao = some ad := by
        cases ao with
        | none => have := HR.out.nil rfl; omega
        | some ad => exact ⟨ad, rfl⟩
      have RK := HR.out.below HB.out
      have ck := RK.cell ad rfl k hlt
      have SK := hide (RK.src k hlt)
      clear RK
      obtain ⟨f, Hf⟩ : ∃ f, Hid (mergeF Z k = f) := ⟨_, rfl⟩
      have HM : Hid (mergeF Z (k + 1) = fmax f (at' (Z k))) := by show _ = _; rw [← Hf.out]; rfl
      rw [Hf.out] at HA
      have HD : Hid (Arr wr.drew w.heap.size 42 f) := HA.out
      have SD : Hid (Src wr.drew (A k) (N k) (C k) (Z k)) := SK.out
      have BD : Hid (Below w.heap.size w wr.drew) := below_drew HB.out
      have l0 := run_ld56 HD.out
      clear HA SK
      go_wp2_with fail
      go_region_with (first | (go_at_call 26; refine (meant_any _ _ _ (Z k) _ SD.out).mono ?_; rintro e w1 ⟨rfl, b1⟩; have A1 := hide (HD.out.below b1); have l1 := run_ld56 A1.out; have B1 := hide (BD.out.trans (b1.mono BD.out.size)); clear b1) | (go_at_call 30; refine (over_any _ _ _).mono ?_; rintro e w2 ⟨rfl, b2⟩; have A2 := hide (A1.out.below b2); have s2 := run_st56 (f' := fmax f (at' (Z k))) A2.out; have B2 := hide (B1.out.trans (b2.mono B1.out.size)); clear b2))
      all_goals (go_wp2_with fail)
      all_goals exact ⟨⟨k + 1, by omega, by go_num, by rw [HM.out]; exact A2.out.setRow, V.below_setRow B2.out (Nat.le_refl _)⟩, by simp [intOf]; omega⟩
    · obtain rfl : k = m := by omega
      have l0 := run_ld56 HA.out
      go_wp2_with fail
      refine (list_any _ _).mono ?_
      rintro e w2 ⟨ao2, n2, c2, rfl, S2, b2⟩
      have B := hide (HB.out.trans (b2.mono HB.out.size))
      have S := hide S2
      clear b2 S2
      go_wp2_with fail
      go_ret
      exact ⟨_, _, _, rfl, S.out, B.out⟩
theorem lit_src (w : World) (Z : List Int) (C : Array Value) (hC : C = (Z.map (Value.int .i64)).toArray) (T : TypeId) (n : Nat) (hn : Z.length = n) : Src (w.alloc (.cells C T)) (some ⟨w.heap.size, 0, none⟩) n n Z := by
  subst hC hn
  refine ⟨rfl, fun h => (by cases h), fun ad h t ht => ?_⟩
  obtain rfl := Option.some.inj h
  rw [Addr.add_lit, Nat.zero_add, World.cell?_alloc_new]
  simp [List.getD, ht]
def pick2 {α : Type} (x y : α) : Nat → α := fun t => if t = 0 then x else y
theorem two_rows (ao bo : Option Addr) (n c m d : Nat) (X Y : List Int) (w : World) (hX : Src w ao n c X) (hY : Src w bo m d Y) (T : TypeId) :
    RowsL (w.alloc (.cells #[.slice ao n c, .slice bo m d] T)) (some ⟨w.heap.size, 0, none⟩) 2 2 (pick2 ao bo) (pick2 n m) (pick2 c d) (pick2 X Y) := by
  have hb : Below w.heap.size w (w.alloc (.cells #[.slice ao n c, .slice bo m d] T)) := (Below.refl _ _).alloc (Nat.le_refl _) _
  refine ⟨fun h => (by cases h), fun ad h t ht => ?_, fun t ht => ?_⟩
  · obtain rfl := Option.some.inj h
    rw [Addr.add_lit, Nat.zero_add, World.cell?_alloc_new]
    match t, ht with
    | 0, _ => rfl
    | 1, _ => rfl
  · match t, ht with
    | 0, _ => exact hX.below hb
    | 1, _ => exact hY.below hb
theorem fmax_zero (f : Nat → Int) (h : Bnd f) : ∀ r, r < 16 → fmax (fun _ => 0) f r = f r := by
  intro r hr
  have := h r hr
  show (if (0 : Int) < f r then f r else 0) = f r
  split <;> omega
theorem merge2_any (ao bo : Option Addr) (n c m d : Nat) (X Y : List Int) (w : World) (g : Nat) (hg : w.heap.size = g) (hX : Src w ao n c X) (hY : Src w bo m d Y) :
    Calls Try.prog 18 #[.slice (some ⟨g, 0, none⟩) 2 2] (w.alloc (.cells #[.slice ao n c, .slice bo m d] 24)) fun e w' => Gives w w' e (short (fmax (at' X) (at' Y))) := by
  subst hg
  refine (merge_any _ 2 2 _ _ _ _ _ (two_rows ao bo n c m d X Y w hX hY 24) (by unfold maxLen; omega)).mono ?_
  intro e w' h
  have h2 := h.on ((Below.refl w.heap.size w).alloc (Nat.le_refl _) _)
  have e2 : short (mergeF (pick2 X Y) 2) = short (fmax (at' X) (at' Y)) := by
    refine short_congr (fun r hr => ?_)
    show fmax (fmax (fun _ => 0) (at' X)) (at' Y) r = fmax (at' X) (at' Y) r
    have := fmax_zero (at' X) (bnd_at X) r hr
    show (if fmax (fun _ => 0) (at' X) r < at' Y r then _ else fmax (fun _ => 0) (at' X) r) = _
    rw [this]; rfl
  rw [e2] at h2
  exact h2

theorem ex_merge : short (fmax (at' [1, 5]) (at' [2, 3, 4])) = [2, 5, 4] := by decide +kernel
set_option maxHeartbeats 400000 in
theorem awake_any (w : World) : Calls Try.prog 12 #[] w fun e w' => e = .returned (.bool true) ∧ Below w.heap.size w w' := by
  go_enter Try.func12, Try.ntmps12
  go_wp2_with fail
  have X1 := lit_src w [1, 5] #[.int .i64 1, .int .i64 5] rfl 3 2 rfl
  have X2 := X1.below ((Below.refl _ _).alloc (Nat.le_refl _) (.cells #[.int .i64 2, .int .i64 3, .int .i64 4] 3))
  have Y2 := lit_src (w.alloc (.cells #[.int .i64 1, .int .i64 5] 3)) [2, 3, 4] #[.int .i64 2, .int .i64 3, .int .i64 4] rfl 3 3 rfl
  have hb := hide (((Below.refl w.heap.size w).alloc (Nat.le_refl _) (.cells #[.int .i64 1, .int .i64 5] 3)).alloc (by simp) (.cells #[.int .i64 2, .int .i64 3, .int .i64 4] 3))
  rw [World.size_alloc] at Y2
  have hz : ((w.alloc (.cells #[.int .i64 1, .int .i64 5] 3)).alloc (.cells #[.int .i64 2, .int .i64 3, .int .i64 4] 3)).heap.size = w.heap.size + 1 + 1 := by simp
  obtain ⟨w2, Hw2⟩ : ∃ w2, (w.alloc (.cells #[.int .i64 1, .int .i64 5] 3)).alloc (.cells #[.int .i64 2, .int .i64 3, .int .i64 4] 3) = w2 := ⟨_, rfl⟩
  rw [Hw2] at X2 Y2 hb hz ⊢
  clear X1 Hw2
  refine (merge2_any _ _ _ _ _ _ [1, 5] [2, 3, 4] w2 _ hz X2 Y2).mono ?_
  rintro e w3 ⟨ao2, n2, c2, rfl, S2, b2⟩
  rw [ex_merge] at S2
  have S := hide S2
  have B := hide (hb.out.trans (b2.mono hb.out.size))
  clear b2 S2 X2 Y2 hz
  go_wp2_with fail
  refine (equal_any ao2 _ n2 3 c2 3 [2, 5, 4] [2, 5, 4] _ (S.out.below ((Below.refl _ _).alloc (Nat.le_refl _) _)) (lit_src w3 [2, 5, 4] #[.int .i64 2, .int .i64 5, .int .i64 4] rfl 3 3 rfl) (by have h := S.out.1; unfold maxLen; simp at h; omega)).mono ?_
  rintro e w4 ⟨rfl, b4⟩
  have B4 := hide ((B.out.alloc B.out.size _).trans (b4.mono (by have := B.out.size; simp; omega)))
  clear b4
  go_wp2_with fail
  go_ret
  exact ⟨by simp, B4.out⟩
end Go.Proofs.Ytmmgbcmcjakdoaa
