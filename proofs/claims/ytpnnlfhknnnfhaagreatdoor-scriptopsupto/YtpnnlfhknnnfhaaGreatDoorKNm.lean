/- numberOf; firstByte, unquote, skuOf. -/
import Derived.Test.YtpnnlfhknnnfhaaGreatDoorKCu
namespace Go.Proofs.YtpnnlfhknnnfhaaGreatDoor
open Go.RowKit T Y V
variable {w w' w2 : World} {g : Nat}

/-- what strconv's error variables hold is nil or an error -/
structure Evs (w : World) : Prop where
  sy : ∃ ev, w.cell? ⟨4, 0, none⟩ = some ev ∧ (ev = .nilIface ∨ ∃ te pe, ev = .iface te pe)
  rg : ∃ ev, w.cell? ⟨5, 0, none⟩ = some ev ∧ (ev = .nilIface ∨ ∃ te pe, ev = .iface te pe)
theorem Evs.on (h : Evs w) (hb : Below w.heap.size w w') : Evs w' := by
  obtain ⟨⟨a, ha, ha2⟩, ⟨b, hb1, hb2⟩⟩ := h
  exact ⟨⟨a, (hb.cell (World.block_lt_of_cell? _ _ ha)).trans ha, ha2⟩, ⟨b, (hb.cell (World.block_lt_of_cell? _ _ hb1)).trans hb1, hb2⟩⟩
/-- strconv.Atoi: the number; or an error -/
theorem atoi_ok (l : List UInt8) (hl : l.length ≤ 1000000000000) (v : Int) (h : Lib.atoiAll l = .ok v) (w : World) : Calls Tryz.prog 55 #[.string (bs l)] w fun e w' => e = .returned (.tuple #[.int .i64 v, .nilIface]) ∧ Below w.heap.size w w' := by
  refine (Any.strconv_Atoi_ok Tryz.laysC172 (bs l) (by rw [bs_size]; omega) v (by rw [bs_list]; exact h) w).mono ?_
  rintro e w' ⟨he, hw⟩
  refine ⟨he, ?_⟩
  rcases hw with rfl | ⟨t, rfl⟩
  · exact Below.refl _ _
  · exact Lib.bytesWorld_below _ _ _
theorem atoi_bad (l : List UInt8) (hl : l.length ≤ 1000000000000) (h : ∀ v, Lib.atoiAll l ≠ .ok v) (w : World) (he : Evs w) : Calls Tryz.prog 55 #[.string (bs l)] w fun e w' => (∃ (n : Int) (t : TypeId) (v : Value), e = .returned (.tuple #[.int .i64 n, .iface t v])) ∧ Below w.heap.size w w' := by
  obtain ⟨⟨a, ha, ha2⟩, ⟨b, hb1, hb2⟩⟩ := he
  cases hq : Lib.atoiAll l
  · exact absurd hq (h _)
  · refine (Any.strconv_Atoi_syntax Tryz.laysC172 (bs l) (by rw [bs_size]; omega) (by rw [bs_list]; exact hq) a w ha ha2).mono ?_
    rintro e w' ⟨N, he, _, _, hb⟩
    exact ⟨⟨_, _, _, he⟩, hb⟩
  · refine (Any.strconv_Atoi_range Tryz.laysC172 (bs l) (by rw [bs_size]; omega) (by rw [bs_list]; exact hq) b w hb1 hb2).mono ?_
    rintro e w' ⟨N, he, _, _, hb⟩
    exact ⟨⟨_, _, _, he⟩, hb⟩
theorem ret_ib {a a' : Int} {b b' : Bool} (h : a = a') (h2 : b = b') : Ending.returned (.tuple #[.int .i64 a, .bool b]) = .returned (.tuple #[.int .i64 a', .bool b']) := by rw [h, h2]
theorem ret_sb {a a' : ByteArray} {b b' : Bool} (h : a = a') (h2 : b = b') : Ending.returned (.tuple #[.string a, .bool b]) = .returned (.tuple #[.string a', .bool b']) := by rw [h, h2]
set_option maxRecDepth 100000 in
set_option maxHeartbeats 1600000 in
theorem numberOf_any (l : List UInt8) (hl : l.length ≤ 1000000000000) (w : World) (ht : Tab w) (he : Evs w) : Calls Tryz.prog 41 #[.string (bs l)] w fun e w' => e = .returned (.tuple #[.int .i64 ((numOf l).getD 0), .bool (numOf l).isSome]) ∧ Below w.heap.size w w' := by
  by_cases hq : ∃ v, Lib.atoiAll l = .ok v
  · obtain ⟨v, hv⟩ := hq
    have hbd := Lib.atoiAll_bounds hv
    have HA := hide (atoi_ok l hl v hv w)
    have HN := hide (fun w (h : Tab w) => numberWord_any v hbd.1 hbd.2 w h)
    have HT := hide ht
    by_cases hn : num v = l
    · have HF : Hid (numOf l = some v) := by show _ = _; unfold numOf; rw [hv]; simp [hn]
      rw [hn] at HN
      clear hv hbd ht he hn
      go_enter Tryz.func41, Tryz.ntmps41
      go_wp2_with (first | (go_at_call 55; refine HA.out.mono ?_; rintro e w1 ⟨rfl, b1⟩; have HT1 := hide (HT.out.on b1)) | (go_at_call 28; refine (HN.out _ HT1.out).mono ?_; rintro e w2 ⟨rfl, b2⟩))
      go_ret2
      exact ⟨ret_ib (by rw [HF.out]; rfl) (by rw [HF.out]; rfl), b1.trans (b2.mono b1.size)⟩
    · have HF : Hid (numOf l = none) := by show _ = _; unfold numOf; rw [hv]; simp [hn]
      have hne : ((bs (num v)).toList == (bs l).toList) = false := by
        rw [ByteArray.toList_eq, ByteArray.toList_eq, bs_list, bs_list]
        simpa using hn
      clear hv hbd ht he hn
      go_enter Tryz.func41, Tryz.ntmps41
      go_wp2_with (first | (go_at_call 55; refine HA.out.mono ?_; rintro e w1 ⟨rfl, b1⟩; have HT1 := hide (HT.out.on b1)) | (go_at_call 28; refine (HN.out _ HT1.out).mono ?_; rintro e w2 ⟨rfl, b2⟩))
      go_ret2
      exact ⟨ret_ib (by rw [HF.out]; rfl) (by rw [HF.out]; rfl), b1.trans (b2.mono b1.size)⟩
  · have hq' : ∀ v, Lib.atoiAll l ≠ .ok v := fun v h => hq ⟨v, h⟩
    have HA := hide (atoi_bad l hl hq' w he)
    have HF : Hid (numOf l = none) := by
      show _ = _
      unfold numOf
      split
      · exact absurd (by assumption) (hq' _)
      · rfl
    clear hq hq' ht he
    go_enter Tryz.func41, Tryz.ntmps41
    go_wp2_with (go_at_call 55; refine HA.out.mono ?_; rintro e w1 ⟨⟨n, t, v, rfl⟩, b1⟩)
    go_ret2
    exact ⟨ret_ib (by rw [HF.out]; rfl) (by rw [HF.out]; rfl), b1⟩
/-- the byte that a text's beginning stands for, and how long that is -/
def fbP (l : List UInt8) : UInt8 × Nat :=
  if selfB (l.getD 0 0) = true then (l.getD 0 0, 1)
  else if 4 ≤ l.length ∧ l.getD 0 0 = 92 ∧ l.getD 1 0 = 120 ∧ 0 ≤ hxv (l.getD 2 0) ∧ 0 ≤ hxv (l.getD 3 0) then (UInt8.ofNat (16 * (hxv (l.getD 2 0)).toNat + (hxv (l.getD 3 0)).toNat), 4)
  else (0, 0)
theorem fbP_unq (c : UInt8) (t : List UInt8) : ((fbP (c :: t)).2 = 0 ∧ unq (c :: t) = none) ∨ (0 < (fbP (c :: t)).2 ∧ (fbP (c :: t)).2 ≤ t.length + 1 ∧ unq (c :: t) = (unq ((c :: t).drop (fbP (c :: t)).2)).map ((fbP (c :: t)).1 :: ·)) := by
  unfold fbP
  have e0 : (c :: t).getD 0 0 = c := rfl
  rw [e0]
  cases hs : selfB c with
  | true =>
    right
    rw [if_pos rfl]
    exact ⟨by simp, by simp, unq_self hs t⟩
  | false =>
    rw [if_neg (by simp)]
    match t with
    | x :: a :: b :: r =>
      have e1 : (c :: x :: a :: b :: r).getD 1 0 = x := rfl
      have e2 : (c :: x :: a :: b :: r).getD 2 0 = a := rfl
      have e3 : (c :: x :: a :: b :: r).getD 3 0 = b := rfl
      rw [e1, e2, e3]
      by_cases h : c = 92 ∧ x = 120 ∧ 0 ≤ hxv a ∧ 0 ≤ hxv b
      · right
        rw [if_pos ⟨by simp, h⟩]
        refine ⟨by simp, by simp, ?_⟩
        rw [unq_esc hs, if_pos h]
        rfl
      · left
        rw [if_neg (fun hh => h hh.2)]
        refine ⟨rfl, ?_⟩
        rw [unq_esc hs, if_neg h]
    | [] => exact Or.inl ⟨by rw [if_neg (by simp)], unq_short hs _ (by simp)⟩
    | [x] => exact Or.inl ⟨by rw [if_neg (by simp)], unq_short hs _ (by simp)⟩
    | [x, y] => exact Or.inl ⟨by rw [if_neg (by simp)], unq_short hs _ (by simp)⟩
theorem hex_index (c : UInt8) (w : World) : Calls Tryz.prog 38 #[.string ⟨#[48, 49, 50, 51, 52, 53, 54, 55, 56, 57, 97, 98, 99, 100, 101, 102]⟩, .int .u8 (c.toNat : Int)] w fun e w' => e = .returned (.int .i64 (hxv c)) ∧ w' = w := by
  have hC := Tryz.strings_IndexByte ⟨#[48, 49, 50, 51, 52, 53, 54, 55, 56, 57, 97, 98, 99, 100, 101, 102]⟩ (c.toNat : Int) w
  have e : ((c.toNat : Int).toNat).toUInt8 = c := by simp
  rw [e] at hC
  exact hC
theorem hxv_lt (c : UInt8) : -1 ≤ hxv c ∧ hxv c < 16 := by
  refine ⟨Lib.indexByte_ge _ _, ?_⟩
  by_cases h : 0 ≤ hxv c
  · have := index_lt (t := hexL) (c := c) h
    have e : hexL.length = 16 := rfl
    unfold hxv at h ⊢
    omega
  · omega
theorem ret_ui {a a' b b' : Int} (h : a = a') (h2 : b = b') : Ending.returned (.tuple #[.int .u8 a, .int .i64 b]) = .returned (.tuple #[.int .u8 a', .int .i64 b']) := by rw [h, h2]
theorem below_drewN (w : World) (k : Nat) : Below w.heap.size w (w.drewN k) := ⟨rfl, rfl, rfl, Nat.le_refl _, fun _ _ => rfl⟩
end Go.Proofs.YtpnnlfhknnnfhaaGreatDoor
