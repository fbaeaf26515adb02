/- The reference's digit, number, bytesOrder: their contracts. -/
import Derived.Test.YtllogonbickmcaaDoorCCmp
namespace Go.Proofs.YtllogonbickmcaaDoor
open Go.RowKit

theorem ret_two {a a' : Value} {b b' : Value} (h : a = a') (h' : b = b') : Ending.returned (.tuple #[a, b]) = .returned (.tuple #[a', b']) := by rw [h, h']
theorem int_eq {k : IntKind} {a b : Int} (h : a = b) : Value.int k a = Value.int k b := by rw [h]
theorem str_gtr (t : TypeId) (a b : ByteArray) : binOp .gtr t (.string a) (.string b) = pure (.bool (!(Op.bytesLess a.toList b.toList || a.toList == b.toList))) := by
  simp [binOp, Op.stringOp]
attribute [local go_sem] str_gtr
theorem digit_any (c : UInt8) (w : World) : Calls Tryd.prog 17 #[.int .u8 (c.toNat : Int)] w fun e w' => e = .returned (.bool (dig c)) ∧ w' = w := by
  by_cases h1 : 48 ≤ (c.toNat : Int)
  · by_cases h2 : (c.toNat : Int) ≤ 57
    · have HD : Hid (dig c = true) := (dig_iff c).2 ⟨h1, h2⟩
      go_enter Tryd.func17, Tryd.ntmps17
      go_wp2
      go_ret
      exact ⟨ret_bool HD.out.symm, rfl⟩
    · have HD : Hid (dig c = false) := by show _ = _; unfold dig; rw [decide_eq_false h2, Bool.and_false]
      go_enter Tryd.func17, Tryd.ntmps17
      go_wp2
      go_ret
      exact ⟨ret_bool HD.out.symm, rfl⟩
  · have HD : Hid (dig c = false) := by show _ = _; unfold dig; rw [decide_eq_false h1, Bool.false_and]
    go_enter Tryd.func17, Tryd.ntmps17
    go_wp2
    go_ret
    exact ⟨ret_bool HD.out.symm, rfl⟩

theorem less_text : ∀ (a b : List UInt8), Op.bytesLess a b = decide (textC a b = -1)
  | [], [] => by decide
  | _ :: _, [] => by unfold Op.bytesLess; rfl
  | [], _ :: _ => by unfold Op.bytesLess; rfl
  | x :: a, y :: b => by
    unfold Op.bytesLess
    rw [less_text a b]
    have e : textC (x :: a) (y :: b) = if byteC x y = 0 then textC a b else byteC x y := rfl
    rw [e]
    have eb : byteC x y = sgn x.toNat y.toNat := rfl
    rcases Nat.lt_trichotomy x.toNat y.toNat with h | h | h
    · have h1 : x < y := UInt8.lt_iff_toNat_lt.2 h
      rw [eb, show sgn x.toNat y.toNat = -1 from by unfold sgn; rw [if_pos h]]
      simp [h1]
    · have h1 : x = y := UInt8.toNat.inj h
      subst h1
      rw [eb, show sgn x.toNat x.toNat = 0 from by unfold sgn; rw [if_neg (by omega), if_neg (by omega)], if_pos rfl]
      have : ¬ x < x := fun h => absurd (UInt8.lt_iff_toNat_lt.1 h) (by omega)
      simp [this]
    · have h1 : ¬ x < y := fun h2 => absurd (UInt8.lt_iff_toNat_lt.1 h2) (by omega)
      have h2 : ¬ x = y := fun h2 => by subst h2; omega
      rw [eb, show sgn x.toNat y.toNat = 1 from by unfold sgn; rw [if_neg (by omega), if_pos h]]
      simp [h1, h2]
theorem bytesOrder_any (x y : ByteArray) (w : World) : Calls Tryd.prog 19 #[.string x, .string y] w fun e w' => e = .returned (.int .i64 (textC x.data.toList y.data.toList)) ∧ w' = w := by
  obtain ⟨c, Hc⟩ : ∃ c, Hid (textC x.data.toList y.data.toList = c) := ⟨_, rfl⟩
  have h1 : Op.bytesLess x.toList y.toList = decide (c = -1) := by rw [less_text, ByteArray.toList_eq, ByteArray.toList_eq, Hc.out]
  have h2 : (x.toList == y.toList) = decide (c = 0) := by
    rw [ByteArray.toList_eq, ByteArray.toList_eq]
    by_cases hc : c = 0
    · have e := textC_zero _ _ (Hc.out.trans hc)
      rw [e, decide_eq_true hc]; simp
    · rw [decide_eq_false hc, beq_eq_false_iff_ne]
      intro e
      have h := Hc.out
      rw [e, textC_cmp.refl] at h
      exact hc h.symm
  have hr := textC_cmp.rng x.data.toList y.data.toList
  rw [Hc.out] at hr ⊢
  rcases hr with rfl | rfl | rfl
  · have h1' : Op.bytesLess x.toList y.toList = true := h1
    clear h1 h2
    go_enter Tryd.func19, Tryd.ntmps19
    go_wp2
    go_ret
    exact ⟨rfl, rfl⟩
  · have h1' : Op.bytesLess x.toList y.toList = false := h1
    have h2' : (x.toList == y.toList) = true := h2
    clear h1 h2
    go_enter Tryd.func19, Tryd.ntmps19
    go_wp2
    go_ret
    exact ⟨rfl, rfl⟩
  · have h1' : Op.bytesLess x.toList y.toList = false := h1
    have h2' : (x.toList == y.toList) = false := h2
    clear h1 h2
    go_enter Tryd.func19, Tryd.ntmps19
    go_wp2
    go_ret
    exact ⟨rfl, rfl⟩

/-- bytes i to j -/
def sub (s : ByteArray) (i j : Nat) : List UInt8 := (s.extract i j).data.toList
def runAt (s : ByteArray) (i : Nat) : List UInt8 := (s.data.toList.drop i).takeWhile dig
theorem sub_list (s : ByteArray) (i j : Nat) : sub s i j = (s.data.toList.drop i).take (j - i) := by
  unfold sub; rw [Lib.extract_data]
theorem sub_cons (s : ByteArray) (k j : Nat) (h : k < j) (hj : j ≤ s.size) : sub s k j = s[k] :: sub s (k + 1) j := by
  rw [sub_list, sub_list, List.drop_eq_getElem_cons (by rw [len_at]; omega), show j - k = (j - (k + 1)) + 1 by omega, List.take_succ_cons]; rfl
theorem sub_zero (s : ByteArray) (k j : Nat) (h : k < j) (hj : j ≤ s.size) (hz : s[k].toNat = 48) : strip (sub s k j) = strip (sub s (k + 1) j) := by
  have e : s[k] = 48 := UInt8.toNat.inj hz
  rw [sub_cons s k j h hj, e, strip_zero]
theorem sub_other (s : ByteArray) (k j : Nat) (h : k < j) (hj : j ≤ s.size) (hz : ¬ s[k].toNat = 48) : strip (sub s k j) = (s.extract k j).data.toList := by
  rw [sub_cons s k j h hj, strip_other _ _ (fun e => hz (by rw [e]; rfl)), ← sub_cons s k j h hj]; rfl
theorem sub_end (s : ByteArray) (k : Nat) : strip (sub s k k) = ByteArray.empty.data.toList := by
  have e : sub s k k = [] := by rw [sub_list, Nat.sub_self, List.take_zero]
  rw [e]; rfl
theorem run_of (s : ByteArray) (i j : Nat) (hi : i ≤ j) (hj : j ≤ s.size) (h1 : (sub s i j).all dig = true) (h2 : j = s.size ∨ dig (s.data.toList.getD j 0) = false) : (runAt s i).length = j - i ∧ runAt s i = sub s i j := by
  rw [sub_list] at h1
  have hk : (runAt s i).length = j - i := takeWhile_run (s.data.toList.drop i) (j - i) (by rw [List.length_drop, len_at]; omega) h1 (by
    rcases h2 with h2 | h2
    · left; rw [List.length_drop, len_at]; omega
    · right; rw [List.getD, List.getElem?_drop, show i + (j - i) = j by omega]; exact h2)
  refine ⟨hk, ?_⟩
  have hp : runAt s i = (s.data.toList.drop i).take (runAt s i).length := by
    exact List.prefix_iff_eq_take.1 (List.takeWhile_prefix dig)
  rw [sub_list]
  rw [hk] at hp
  exact hp
theorem sub_snoc (s : ByteArray) (i j : Nat) (hi : i ≤ j) (h : j < s.size) : sub s i (j + 1) = sub s i j ++ [s[j]] := by
  rw [sub_list, sub_list, show j + 1 - i = (j - i) + 1 by omega, List.take_succ_eq_append_getElem (by rw [List.length_drop, len_at]; omega)]
  congr 2
  simp [show i + (j - i) = j by omega]; rfl

set_option maxRecDepth 100000 in
set_option maxHeartbeats 1600000 in
theorem number_any (s : ByteArray) (i : Nat) (w : World) (hs : s.size ≤ maxLen) (hi : i ≤ s.size) :
    Calls Tryd.prog 18 #[.string s, .int .i64 i] w fun e w' => ∃ t : ByteArray, e = .returned (.tuple #[.string t, .int .i64 ((i + (runAt s i).length : Nat) : Int)]) ∧ t.data.toList = strip (runAt s i) ∧ w' = w := by
  unfold maxLen at hs
  go_enter Tryd.func18, Tryd.ntmps18
  go_wp2
  go_loop [6] (fun v => ∃ j : Nat, i ≤ j ∧ j ≤ s.size ∧ v = .int .i64 j ∧ Hid ((sub s i j).all dig = true)) (fun v => s.size - (intOf v).toNat)
  case atStart => exact ⟨i, Nat.le_refl _, hi, rfl, by show _ = _; rw [sub_list, Nat.sub_self, List.take_zero]; rfl⟩
  case round =>
    obtain ⟨j, hij, hjs, rfl, HA⟩ := hrel
    by_cases hlt : j < s.size
    · have HT := hide (sub_snoc s i j hij hlt)
      have HG := hide (getD_at s j hlt)
      obtain ⟨x, Hx⟩ : ∃ x : Bool, Hid (dig s[j] = x) := ⟨dig s[j], rfl⟩
      cases x with
      | true =>
        go_wp2_with (go_at_call 17; refine (digit_any s[j] _).mono ?_; rintro e w' ⟨rfl, rfl⟩; rw [Hx.out])
        go_round
        case rel => exact ⟨j + 1, by omega, by omega, by go_num, by show _ = _; rw [HT.out, List.all_append, HA.out]; simp [Hx.out]⟩
        case measure => simp [intOf]; omega
      | false =>
        obtain ⟨hj1, hj2⟩ := run_of s i j hij hjs HA.out (Or.inr (by rw [HG.out]; exact Hx.out))
        have HJ : Hid (i + (runAt s i).length = j) := by show _ = _; omega
        have HR : Hid (strip (runAt s i) = strip (sub s i j)) := by show _ = _; rw [hj2]
        clear hj1 hj2
        go_wp2_with (go_at_call 17; refine (digit_any s[j] _).mono ?_; rintro e w' ⟨rfl, rfl⟩; rw [Hx.out])
        go_loop [7] (fun v => ∃ k : Nat, i ≤ k ∧ k ≤ j ∧ v = .int .i64 k ∧ Hid (strip (sub s i j) = strip (sub s k j))) (fun v => j - (intOf v).toNat)
        case atStart => exact ⟨i, Nat.le_refl _, by omega, rfl, rfl⟩
        case round =>
          obtain ⟨k, hik, hkj, rfl, HS⟩ := hrel
          by_cases hlt2 : k < j
          · have hks : k < s.size := by omega
            by_cases h48 : (s[k].toNat : Int) = 48
            · have HZ := hide (sub_zero s k j hlt2 hjs (by omega))
              go_wp2
              go_round
              case rel => exact ⟨k + 1, by omega, by omega, by go_num, by show _ = _; rw [HS.out, HZ.out]⟩
              case measure => simp [intOf]; omega
            · have HO := hide (sub_other s k j hlt2 hjs (by omega))
              have h48' : ((s[k].toNat : Int) == 48) = false := by simpa using h48
              go_wp2
              go_ret2
              exact ⟨s.extract k j, ret_two rfl (int_eq (by have := HJ.out; omega)), by rw [HR.out, HS.out, HO.out], rfl⟩
          · have ek : k = j := by omega
            subst ek
            have HO := hide (sub_end s k)
            go_wp2
            go_ret2
            exact ⟨ByteArray.empty, ret_two rfl (int_eq (by have := HJ.out; omega)), by rw [HR.out, HS.out, HO.out], rfl⟩
    · have ej : j = s.size := by omega
      obtain ⟨hj1, hj2⟩ := run_of s i j hij hjs HA.out (Or.inl ej)
      have HJ : Hid (i + (runAt s i).length = j) := by show _ = _; omega
      have HR : Hid (strip (runAt s i) = strip (sub s i j)) := by show _ = _; rw [hj2]
      clear hj1 hj2 ej
      go_wp2
      go_loop [7] (fun v => ∃ k : Nat, i ≤ k ∧ k ≤ j ∧ v = .int .i64 k ∧ Hid (strip (sub s i j) = strip (sub s k j))) (fun v => j - (intOf v).toNat)
      case atStart => exact ⟨i, Nat.le_refl _, by omega, rfl, rfl⟩
      case round =>
        obtain ⟨k, hik, hkj, rfl, HS⟩ := hrel
        by_cases hlt2 : k < j
        · have hks : k < s.size := by omega
          by_cases h48 : (s[k].toNat : Int) = 48
          · have HZ := hide (sub_zero s k j hlt2 hjs (by omega))
            go_wp2
            go_round
            case rel => exact ⟨k + 1, by omega, by omega, by go_num, by show _ = _; rw [HS.out, HZ.out]⟩
            case measure => simp [intOf]; omega
          · have HO := hide (sub_other s k j hlt2 hjs (by omega))
            have h48' : ((s[k].toNat : Int) == 48) = false := by simpa using h48
            go_wp2
            go_ret2
            exact ⟨s.extract k j, ret_two rfl (int_eq (by have := HJ.out; omega)), by rw [HR.out, HS.out, HO.out], rfl⟩
        · have ek : k = j := by omega
          subst ek
          have HO := hide (sub_end s k)
          go_wp2
          go_ret2
          exact ⟨ByteArray.empty, ret_two rfl (int_eq (by have := HJ.out; omega)), by rw [HR.out, HS.out, HO.out], rfl⟩
end Go.Proofs.YtllogonbickmcaaDoor
