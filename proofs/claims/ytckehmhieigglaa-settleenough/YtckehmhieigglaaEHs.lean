/- The law's has; a talk more, plain. -/
import Derived.Test.YtckehmhieigglaaELr
import Derived.Lib.MinMax
namespace Go.Proofs.Ytckehmhieigglaa
open Go.RowKit
variable {w w' w2 w0 wr : World} {g n : Nat}

theorem mem_rl (f : Nat → Bool) (n : Nat) (j : Nat) : ((j : Int) ∈ rl f n) ↔ (j < n ∧ f j = true) := by
  induction n with
  | zero => simp [rl]
  | succ n ih =>
    unfold rl
    by_cases h : f n = true
    · rw [if_pos h, List.mem_append, ih, List.mem_singleton]
      constructor
      · rintro (⟨h1, h2⟩ | e)
        · exact ⟨by omega, h2⟩
        · have : j = n := by omega
          subst this
          exact ⟨by omega, h⟩
      · rintro ⟨h1, h2⟩
        by_cases e : j = n
        · right; rw [e]
        · left; exact ⟨by omega, h2⟩
    · rw [if_neg h, ih]
      constructor
      · rintro ⟨h1, h2⟩; exact ⟨by omega, h2⟩
      · rintro ⟨h1, h2⟩
        refine ⟨?_, h2⟩
        by_cases e : j = n
        · subst e; exact absurd h2 h
        · omega
theorem knw_diag (n : Nat) (L : List Pr) (r : Nat) (hr : r < n) : knw n L r r = true := by
  unfold knw
  have key : ∀ (L : List Pr) (K : Nat → Nat → Bool), K r r = true → L.foldl (kstep n) K r r = true := by
    intro L
    induction L with
    | nil => intro K h; exact h
    | cons p L ih =>
      intro K h
      refine ih _ ?_
      unfold kstep
      split
      · unfold kup
        split
        · rename_i e
          rw [← e.1, h]; rfl
        · exact h
      · exact h
  exact key L _ (by unfold k0; simp [hr])
theorem knw_snoc (n : Nat) (L : List Pr) (p : Pr) : knw n (L ++ [p]) = kstep n (knw n L) p := by unfold knw; rw [List.foldl_append]; rfl
theorem kup_other (K : Nat → Nat → Bool) (b r : Nat) (f : Nat → Bool) (h : r ≠ b) : kup K b f 16 r = K r := by
  funext o
  unfold kup
  rw [if_neg (fun e => h e.1)]
theorem kup_row (K : Nat → Nat → Bool) (b : Nat) (f : Nat → Bool) (n : Nat) (hn : n ≤ 16) : rl (kup K b f 16 b) n = rl (fun o => K b o || f o) n := rl_congr n fun j hj => by
  unfold kup
  rw [if_pos ⟨rfl, by omega⟩]
theorem clN_mm (r m0 : Int) (h : min 16 r = m0) : max 1 m0 = (clN r : Int) := by
  subst h
  unfold clN
  split
  · omega
  · split <;> omega
theorem take_mem {Y : List Int} {x : Int} {k : Nat} (h : x ∉ Y.take k) (hk : k < Y.length) (e : Y.getD k 0 ≠ x) : x ∉ Y.take (k + 1) := by
  rw [List.take_succ_eq_append_getElem hk, List.mem_append, List.mem_singleton]
  rintro (h1 | h1)
  · exact h h1
  · apply e
    rw [h1]
    simp [List.getD, hk]
set_option maxRecDepth 100000 in
theorem has_any (ao : Option Addr) (n c : Nat) (Y : List Int) (x : Int) (w : World) (hY : NSrc w ao n c Y) (hn : n ≤ 140737488355328) :
    Calls Try.prog 21 #[.slice ao n c, .int .i64 x] w fun e w' => e = .returned (.bool (decide (x ∈ Y))) ∧ w = w' := by
  have HL : Hid (Y.length = n) := hY.len
  have HY := hide hY
  clear hY
  go_enter Try.func21, Try.ntmps21
  go_wp2_with fail
  go_loopw [9] (fun i wr => ∃ k : Nat, k ≤ n ∧ i = .int .i64 k ∧ Hid (x ∉ Y.take k) ∧ w = wr) (fun i _ => n - (intOf i).toNat)
  case atStart => exact ⟨0, Nat.zero_le _, rfl, by show ¬ _; simp, rfl⟩
  case round =>
    obtain ⟨k, hk, rfl, HN, rfl⟩ := hrel
    by_cases hlt : k < n
    · obtain ⟨ad, rfl, c1⟩ := HY.out.at k hlt
      have hkL : k < Y.length := by have := HL.out; omega
      by_cases he : Y.getD k 0 = x
      · have HF : Hid (decide (x ∈ Y) = true) := by
          show _ = _
          rw [decide_eq_true]
          rw [← he]
          simp [List.getD, hkL]
        rw [he] at c1
        clear he
        go_wp2_with fail
        go_ret
        exact ⟨ret_bool HF.out.symm, rfl⟩
      · have HN2 := hide (take_mem HN.out hkL he)
        obtain ⟨z, hz⟩ : ∃ z, Y.getD k 0 = z := ⟨_, rfl⟩
        rw [hz] at c1 he
        clear hz
        go_wp2_with fail
        go_roundw
        case rel => exact ⟨k + 1, by omega, by go_num, HN2, trivial⟩
        case measure => simp [intOf]; omega
    · have HF : Hid (decide (x ∈ Y) = false) := by
        show _ = _
        rw [decide_eq_false]
        have := HN.out
        rwa [List.take_of_length_le (by have := HL.out; omega)] at this
      go_wp2_with fail
      go_ret
      exact ⟨ret_bool HF.out.symm, rfl⟩
theorem has_rl (ao : Option Addr) (m c : Nat) (f : Nat → Bool) (n j : Nat) (w : World) (hY : NSrc w ao m c (rl f n)) (hn : n ≤ 16) (hj : j < n) :
    Calls Try.prog 21 #[.slice ao m c, .int .i64 (j : Int)] w fun e w' => e = .returned (.bool (f j)) ∧ w = w' := by
  have h := has_any ao m c (rl f n) (j : Int) w hY (by have := hY.len; have := rl_len f n; omega)
  have e : decide ((j : Int) ∈ rl f n) = f j := by
    cases h2 : f j
    · rw [decide_eq_false]
      rw [mem_rl, h2]
      simp
    · rw [decide_eq_true]
      rw [mem_rl]
      exact ⟨hj, h2⟩
  rw [e] at h
  exact h
theorem PSrc.lit1 (w : World) (f t : Int) : PSrc (w.alloc (.cells #[.int .i64 f, .int .i64 t] 28)) (some ⟨w.heap.size, 0, none⟩) 1 1 [⟨f, t⟩] := by
  refine ⟨rfl, (fun h => by cases h), fun ad h k hk => ?_⟩
  obtain rfl := Option.some.inj h
  obtain rfl : k = 0 := by omega
  have B : PBox (w.alloc (.cells (PC ⟨f, t⟩) 28)) w.heap.size ⟨f, t⟩ := PBox_new w ⟨f, t⟩
  rw [Nat.zero_mul, add_nought]
  exact ⟨B.c0, by rw [Addr.add_lit]; exact B.c1⟩
/-- append of a row that is read, as it runs -/
theorem PR.runsS {ao so : Option Addr} {n c m c3 : Nat} {L X : List Pr} (h : PR w ao n c L) (S : PSrc w so m c3 X) (hb : n + m ≤ 8796093022108) (hs : so ≠ none) (ty : TypeId) :
    ∃ bo c2 w2, (Builtin.append_ #[22, 22] ty #[.slice ao n c, .slice so m c3]).run Try.prog w = .ok (.slice bo (n + m) c2) w2 ∧ PR w2 bo (n + m) c2 (L ++ X) ∧ Ap w w2 ao bo := by
  obtain ⟨i0, hi, hz0, hz1, hz2⟩ := info_parts infoP
  have e : (Value.agg #[.int .i64 0, .int .i64 0]).cells.size = 2 := by simp [Value.cells]
  cases so with
  | none => exact absurd rfl hs
  | some ad =>
    obtain ⟨v', w2, hrun, hown, hgrow, hnil, hat⟩ := run_append_own_at (P := Try.prog) w 0 22 ty 28 i0 (.agg #[.int .i64 0, .int .i64 0]) 2 16 Try.underlying22 hi hz0 hz1 hz2 e (by decide) (.slice ao n c) n (pcs L) h ad m c3 (pcs X) (by rw [pcs_length, S.len]) (fun j u hj => S.flat ad rfl j u hj) (pcs_one X) (by unfold maxLen; omega) (by omega) (Nat.zero_le _)
    rw [← pcs_append] at hown
    obtain ⟨bo, c2, rfl, hP⟩ := PR.out hown
    rw [ownBlock_blk] at hgrow
    rw [ownBlock_blk, ownBlock_blk] at hat
    refine ⟨bo, c2, w2, hrun, hP, hgrow, ?_⟩
    rcases hat with e | e
    · exact Or.inl e
    · exact Or.inr ⟨_, e, Nat.le_refl _⟩
end Go.Proofs.Ytckehmhieigglaa
