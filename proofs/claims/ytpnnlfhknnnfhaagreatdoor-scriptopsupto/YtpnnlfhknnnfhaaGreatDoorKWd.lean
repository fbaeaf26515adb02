/- The words of a line: isBlank, firstWord, cut. -/
import Derived.Test.YtpnnlfhknnnfhaaGreatDoorKPb
import Derived.Test.YtpnnlfhknnnfhaaGreatDoorKly
import Derived.Test.YtpnnlfhknnnfhaaGreatDoorJTx
import Derived.Test.YtpnnlfhknnnfhaaGreatDoorKSf
import Derived.Lib.Strings
namespace Go.Proofs.YtpnnlfhknnnfhaaGreatDoor
open Go.RowKit T Y V
variable {w w' w2 : World} {g : Nat}

theorem trim_any (l : List UInt8) (w : World) : Calls Tryz.prog 16 #[.string (bs l), .string ⟨#[32, 9, 13]⟩] w fun e w' => e = .returned (.string (bs (skipG l))) ∧ Below w.heap.size w w' := by
  have h := Any.strings_TrimLeft_laid Tryz.lays161 (by kernel_rfl) (bs l) ⟨#[32, 9, 13]⟩ w (by decide) (ascii_of_all (by decide))
  refine h.mono ?_
  rintro e w' ⟨he, hb⟩
  refine ⟨?_, hb⟩
  rw [he, bs_list]
  rfl
theorem gap_index (c : UInt8) : (0 ≤ Lib.indexByte [32, 9, 13] c) ↔ gapB c = true := by
  unfold gapB
  simp only [Lib.indexByte]
  by_cases h1 : c = 32
  · subst h1; decide
  · by_cases h2 : c = 9
    · subst h2; decide
    · by_cases h3 : c = 13
      · subst h3; decide
      · have e1 : ((32 : UInt8) == c) = false := by simpa using fun h => h1 h.symm
        have e2 : ((9 : UInt8) == c) = false := by simpa using fun h => h2 h.symm
        have e3 : ((13 : UInt8) == c) = false := by simpa using fun h => h3 h.symm
        simp [e1, e2, e3, h1, h2, h3]
theorem isBlank_any (c : UInt8) (w : World) : Calls Tryz.prog 39 #[.int .u8 (c.toNat : Int)] w fun e w' => e = .returned (.bool (gapB c)) ∧ w' = w := by
  have hC := Tryz.strings_IndexByte ⟨#[32, 9, 13]⟩ (c.toNat : Int) w
  have e : ((c.toNat : Int).toNat).toUInt8 = c := by simp
  have e2 : (⟨#[32, 9, 13]⟩ : ByteArray).data.toList = [32, 9, 13] := rfl
  rw [e, e2] at hC
  have hg := gap_index c
  obtain ⟨v, hv⟩ : ∃ v, Lib.indexByte [32, 9, 13] c = v := ⟨_, rfl⟩
  rw [hv] at hC hg
  have HC := hide hC
  clear hC hv e e2
  cases hb : gapB c with
  | true =>
    have h0 : 0 ≤ v := hg.2 hb
    clear hg hb
    go_enter Tryz.func39, Tryz.ntmps39
    go_wp2_with (go_at_call 38; refine HC.out.mono ?_; rintro e w1 ⟨rfl, h1⟩; subst w1)
    go_ret
    exact ⟨rfl, rfl⟩
  | false =>
    have h0 : ¬ 0 ≤ v := fun h => by have := hg.1 h; rw [hb] at this; cases this
    clear hg hb
    go_enter Tryz.func39, Tryz.ntmps39
    go_wp2_with (go_at_call 38; refine HC.out.mono ?_; rintro e w1 ⟨rfl, h1⟩; subst w1)
    go_ret
    exact ⟨ret_bool (decide_eq_false (by omega)), rfl⟩
theorem tw_lt {p : UInt8 → Bool} : ∀ {t : List UInt8} {j : Nat}, j < (t.takeWhile p).length → j < t.length ∧ p (t.getD j 0) = true
  | [], j, h => by simp at h
  | c :: t, j, h => by
    by_cases hc : p c = true
    · rw [List.takeWhile_cons_of_pos hc, List.length_cons] at h
      match j with
      | 0 => exact ⟨by simp, by simpa using hc⟩
      | j + 1 =>
        have := tw_lt (p := p) (t := t) (j := j) (by omega)
        exact ⟨by simp; omega, by simpa using this.2⟩
    · rw [List.takeWhile_cons_of_neg hc] at h
      simp at h
theorem tw_end {p : UInt8 → Bool} : ∀ {t : List UInt8}, (t.takeWhile p).length = t.length ∨ ((t.takeWhile p).length < t.length ∧ p (t.getD (t.takeWhile p).length 0) = false)
  | [] => by simp
  | c :: t => by
    by_cases hc : p c = true
    · rw [List.takeWhile_cons_of_pos hc, List.length_cons, List.length_cons]
      rcases tw_end (p := p) (t := t) with h | ⟨h, h2⟩
      · exact Or.inl (by omega)
      · exact Or.inr ⟨by omega, by simpa using h2⟩
    · rw [List.takeWhile_cons_of_neg hc]
      exact Or.inr ⟨by simp, by simpa using hc⟩
theorem index_lt : ∀ {t : List UInt8} {c : UInt8}, 0 ≤ Lib.indexByte t c → (Lib.indexByte t c).toNat < t.length
  | [], c, h => by simp [Lib.indexByte] at h
  | d :: t, c, h => by
    rw [Lib.indexByte] at h ⊢
    split
    · simp
    · rename_i hd
      rw [if_neg hd] at h
      split
      · rename_i h2; rw [if_pos h2] at h; simp at h
      · rename_i h2
        rw [if_neg h2] at h
        have hge := Lib.indexByte_ge t c
        have h3 : Lib.indexByte t c ≠ -1 := by simpa using h2
        have := index_lt (t := t) (c := c) (by omega)
        simp only [List.length_cons]
        omega
theorem wlen_le {l : List UInt8} {n : Nat} (h : wlen l = some n) : n ≤ l.length := by
  obtain ⟨c, t, rfl⟩ := wlen_cons h
  unfold wlen at h
  simp only at h
  split at h
  · split at h
    · cases h
    · rename_i h0
      have := index_lt (t := t) (c := 34) (by omega)
      split at h
      · have := Option.some.inj h
        rw [List.length_cons]
        omega
      · cases h
  · have := Option.some.inj h
    have h2 := (List.takeWhile_sublist (l := t) (fun c => !gapB c)).length_le
    rw [List.length_cons]
    omega
/-- firstWord's answer -/
def FwA (l : List UInt8) (e : Ending) : Prop := ∃ m : Int, e = .returned (.tuple #[.int .i64 m, .bool (wlen l).isSome]) ∧ ∀ n, wlen l = some n → m = (n : Int)
set_option maxRecDepth 100000 in
set_option maxHeartbeats 3200000 in
theorem firstWord_any (c : UInt8) (t : List UInt8) (hl : t.length ≤ 100000000000000) (w : World) : Calls Tryz.prog 18 #[.string (bs (c :: t))] w fun e w' => FwA (c :: t) e ∧ w' = w := by
  obtain ⟨s, hs⟩ : ∃ s, bs (c :: t) = s := ⟨_, rfl⟩
  have hsz : s.size = t.length + 1 := by rw [← hs, bs_size]; rfl
  have hz : 0 < s.size := by omega
  have hzI : (0 : Int) < s.size := by omega
  have hzb : s.size ≤ 100000000000001 := by omega
  have hget : ∀ k (h : k < s.size), s[k] = (c :: t).getD k 0 := by subst hs; exact bs_get _
  have h0 : s[0] = c := by rw [hget 0 hz]; rfl
  have htl : s.extract 1 s.size = bs t := by rw [← hs]; exact bs_tail c t
  rw [hs]
  clear hs
  by_cases hc : c = 34
  · have e34 : ((s[0].toNat : Int) == 34) = true := by rw [h0, hc]; rfl
    have hC := fun w => Tryz.strings_IndexByte (bs t) 34 w
    rw [bs_list] at hC
    have e : ((34 : Int).toNat).toUInt8 = 34 := by decide
    rw [e] at hC
    obtain ⟨v, hv⟩ : ∃ v, Lib.indexByte t 34 = v := ⟨_, rfl⟩
    have hlt := index_lt (t := t) (c := 34)
    have hW : wlen (c :: t) = if v < 0 then none else if v.toNat + 2 = t.length + 1 ∨ gapB ((c :: t).getD (v.toNat + 2) 0) = true then some (v.toNat + 2) else none := by
      unfold wlen
      simp only
      rw [if_pos hc, hv]
    rw [hv] at hC hlt
    have HC := hide hC
    clear hC hv e hl h0
    by_cases hneg : v < 0
    · have HF : Hid (∀ m : Int, FwA (c :: t) (.returned (.tuple #[.int .i64 m, .bool false]))) := fun m => by
        refine ⟨m, ?_, fun n hn => ?_⟩
        · rw [hW, if_pos hneg]; rfl
        · rw [hW, if_pos hneg] at hn; cases hn
      clear hW hlt hc hget hsz
      go_enter Tryz.func18, Tryz.ntmps18
      go_wp2_with (go_at_call 38; (try rw [htl]); refine (HC.out _).mono ?_; rintro e w1 ⟨rfl, h1⟩; subst w1)
      go_ret2
      exact ⟨HF.out _, rfl⟩
    · obtain ⟨i, rfl⟩ : ∃ i : Nat, v = (i : Int) := ⟨v.toNat, by omega⟩
      have hi : i < t.length := by simpa using hlt (by omega)
      rw [if_neg hneg, Int.toNat_natCast] at hW
      obtain ⟨n, hn⟩ : ∃ n, i + 2 = n := ⟨_, rfl⟩
      rw [hn] at hW
      have hnw : wrap64 ((i : Int) + 2) = (n : Int) := by rw [w64 (by omega) (by omega)]; omega
      by_cases hend : n = t.length + 1
      · have hEq : ((n : Int) == (s.size : Int)) = true := by simp; omega
        rw [if_pos (Or.inl hend)] at hW
        have HF : Hid (FwA (c :: t) (.returned (.tuple #[.int .i64 (n : Int), .bool true]))) := ⟨n, by rw [hW]; rfl, fun m hm => by rw [hW] at hm; rw [Option.some.inj hm]⟩
        clear hW hlt hc hget hsz hend hn hi
        go_enter Tryz.func18, Tryz.ntmps18
        go_wp2_with (go_at_call 38; (try rw [htl]); refine (HC.out _).mono ?_; rintro e w1 ⟨rfl, h1⟩; subst w1)
        go_ret2
        exact ⟨by have := HF.out; rw [← hnw] at this; exact this, rfl⟩
      · have hEq : ((n : Int) == (s.size : Int)) = false := by simp; omega
        have hns : n < s.size := by omega
        have hnI : (n : Int) < s.size := by omega
        obtain ⟨x, hx⟩ : ∃ x, s[n] = x := ⟨_, rfl⟩
        rw [← hget n hns, hx] at hW
        have HG := hide (fun w => isBlank_any x w)
        cases hg : gapB x with
        | true =>
          rw [hg] at HG
          rw [if_pos (Or.inr hg)] at hW
          have HF : Hid (FwA (c :: t) (.returned (.tuple #[.int .i64 (n : Int), .bool true]))) := ⟨n, by rw [hW]; rfl, fun m hm => by rw [hW] at hm; rw [Option.some.inj hm]⟩
          clear hW hlt hc hget hsz hend hn hi hg
          go_enter Tryz.func18, Tryz.ntmps18
          go_wp2_with (first | (go_at_call 38; (try rw [htl]); refine (HC.out _).mono ?_; rintro e w1 ⟨rfl, h1⟩; subst w1) | (go_at_call 39; refine (HG.out _).mono ?_; rintro e w2 ⟨rfl, h2⟩; subst w2))
          go_ret2
          exact ⟨HF.out, rfl⟩
        | false =>
          rw [hg] at HG
          rw [if_neg (by rw [hg]; simp; exact hend)] at hW
          have HF : Hid (∀ m : Int, FwA (c :: t) (.returned (.tuple #[.int .i64 m, .bool false]))) := fun m => by
            refine ⟨m, ?_, fun n hn => ?_⟩
            · rw [hW]; rfl
            · rw [hW] at hn; cases hn
          clear hW hlt hc hget hsz hend hn hi hg
          go_enter Tryz.func18, Tryz.ntmps18
          go_wp2_with (first | (go_at_call 38; (try rw [htl]); refine (HC.out _).mono ?_; rintro e w1 ⟨rfl, h1⟩; subst w1) | (go_at_call 39; refine (HG.out _).mono ?_; rintro e w2 ⟨rfl, h2⟩; subst w2))
          go_ret2
          exact ⟨HF.out _, rfl⟩
  · have e34 : ((s[0].toNat : Int) == 34) = false := by
      rw [h0, beq_eq_false_iff_ne]
      intro h
      apply hc
      have : c.toNat = (34 : UInt8).toNat := by simpa using (by omega : c.toNat = 34)
      exact UInt8.toNat_inj.1 this
    have hW : wlen (c :: t) = some (1 + (t.takeWhile (fun c => !gapB c)).length) := by
      unfold wlen
      simp only
      rw [if_neg hc]
    have hlt := fun j => tw_lt (p := fun c => !gapB c) (t := t) (j := j)
    have hen := tw_end (p := fun c => !gapB c) (t := t)
    obtain ⟨q, hq⟩ : ∃ q, (t.takeWhile (fun c => !gapB c)).length = q := ⟨_, rfl⟩
    rw [hq] at hW hlt hen
    have Hlt := hide hlt
    have Hen := hide hen
    have hqs : q + 1 ≤ s.size := by rcases hen with h | h <;> omega
    have HF : Hid (FwA (c :: t) (.returned (.tuple #[.int .i64 ((q + 1 : Nat) : Int), .bool true]))) := ⟨((q + 1 : Nat) : Int), by rw [hW]; rfl, fun m hm => by rw [hW] at hm; rw [← Option.some.inj hm]; omega⟩
    have Hget := hide hget
    have Hsz := hide hsz
    clear hW hlt hen hq hc h0 hget hsz htl
    go_enter Tryz.func18, Tryz.ntmps18
    go_wp2
    go_loop [4] (fun v => ∃ k : Nat, 1 ≤ k ∧ k ≤ q + 1 ∧ v = .int .i64 (k : Int)) (fun v => s.size - (intOf v).toNat)
    case atStart => exact ⟨1, by omega, by omega, rfl⟩
    case round =>
      obtain ⟨k, hk1, hk, rfl⟩ := hrel
      by_cases hlast : k = q + 1
      · rcases Hen.out with h | ⟨h, h2⟩
        · have hks : ¬ (k : Int) < s.size := by have := Hsz.out; omega
          have HK : Hid (((q + 1 : Nat) : Int) = (k : Int)) := by show _ = _; rw [hlast]
          clear hlast
          go_wp2
          go_ret2
          exact ⟨by have := HF.out; rw [HK.out] at this; exact this, rfl⟩
        · have hks : k < s.size := by have := Hsz.out; omega
          have hkI : (k : Int) < s.size := by omega
          have HK : Hid (((q + 1 : Nat) : Int) = (k : Int)) := by show _ = _; rw [hlast]
          obtain ⟨x, hx⟩ : ∃ x, s[k] = x := ⟨_, rfl⟩
          have hgx : gapB x = true := by
            rw [← hx, Hget.out k hks, hlast]
            simpa using h2
          have HG := hide (fun w => isBlank_any x w)
          rw [hgx] at HG
          clear hlast hgx
          go_wp2_with (go_at_call 39; refine (HG.out _).mono ?_; rintro e w2 ⟨rfl, h2⟩; subst w2)
          go_ret2
          exact ⟨by have := HF.out; rw [HK.out] at this; exact this, rfl⟩
      · have hks : k < s.size := by omega
        have hkI : (k : Int) < s.size := by omega
        obtain ⟨x, hx⟩ : ∃ x, s[k] = x := ⟨_, rfl⟩
        have hgx : gapB x = false := by
          have := (Hlt.out (k - 1) (by omega)).2
          rw [← hx, Hget.out k hks]
          obtain ⟨j, rfl⟩ : ∃ j, k = j + 1 := ⟨k - 1, by omega⟩
          simpa using this
        have HG := hide (fun w => isBlank_any x w)
        rw [hgx] at HG
        clear hgx
        go_wp2_with (go_at_call 39; refine (HG.out _).mono ?_; rintro e w2 ⟨rfl, h2⟩; subst w2)
        go_round
        case rel => exact ⟨k + 1, by omega, by omega, by go_num⟩
        case measure => simp [intOf]; omega
end Go.Proofs.YtpnnlfhknnnfhaaGreatDoor
