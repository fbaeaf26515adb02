/- The law's thing; the reference's Bytes of one put. -/
import Derived.Test.YtebedjhfdncabaaYSt
import Derived.Lib.ConvBytes
namespace Go.Proofs.Ytebedjhfdncabaa
open Go.RowKit
variable {w w' w2 : World} {g : Nat}

theorem to_PC (k n : Int) (b : Bool) (s : ByteArray) : (#[.int .i64 k, .int .i64 n, .bool b, .string s] : Array Value) = PC ⟨k, n, b, s⟩ := rfl
theorem PC_s0 (k n z : Int) (b : Bool) (s : ByteArray) : (PC ⟨k, n, b, s⟩).setIfInBounds 0 (.int .i64 z) = PC ⟨z, n, b, s⟩ := rfl
theorem PC_s1 (k n z : Int) (b : Bool) (s : ByteArray) : (PC ⟨k, n, b, s⟩).setIfInBounds 1 (.int .i64 z) = PC ⟨k, z, b, s⟩ := rfl
theorem PC_s2 (k n : Int) (b c : Bool) (s : ByteArray) : (PC ⟨k, n, b, s⟩).setIfInBounds 2 (.bool c) = PC ⟨k, n, c, s⟩ := rfl
theorem PC_s3 (k n : Int) (b : Bool) (s t : ByteArray) : (PC ⟨k, n, b, s⟩).setIfInBounds 3 (.string t) = PC ⟨k, n, b, t⟩ := rfl
attribute [local go_sem ↓] ldP_eq stP_eq ldQ_eq stQ_eq
attribute [local go_sem] PC_size to_PC PC_s0 PC_s1 PC_s2 PC_s3
set_option maxRecDepth 100000 in
theorem thing_any (z k n : Int) (b : Bool) (s : ByteArray) (w : World) : Calls Try.prog 9 #[QV ⟨z, k, n, b, s⟩] w fun r w' => r = .returned (PV ⟨k, n, b, s⟩) ∧ Below w.heap.size w w' := by
  obtain ⟨w1, hw1⟩ : ∃ w1, w.alloc (.cells (QC ⟨z, k, n, b, s⟩) 36) = w1 := ⟨_, rfl⟩
  obtain ⟨g, hg⟩ : ∃ g, w.heap.size = g := ⟨_, rfl⟩
  have HQ : Hid (QBox w1 g ⟨z, k, n, b, s⟩ ∧ Below w.heap.size w w1) := by subst hw1 hg; exact ⟨QBox_new w _, below_new w _⟩
  obtain ⟨g1, hg1⟩ : ∃ g1, w1.heap.size = g1 := ⟨_, rfl⟩
  have HZ : Hid (QBox (w1.alloc (.cells (PC p0) 41)) g ⟨z, k, n, b, s⟩) := HQ.out.1.below (below_new _ _)
  obtain ⟨w2, hst, M2, b2, z2⟩ := madeP w1 ⟨k, n, b, s⟩ g1 hg1
  have y1 := HZ.out.c1
  have y2 := HZ.out.c2
  have y3 := HZ.out.c3
  have y4 := HZ.out.c4
  simp only [p0] at y1 y2 y3 y4 hst
  have HM := hide M2
  have HB := hide (HQ.out.2.trans (b2.mono HQ.out.2.size))
  clear M2 b2 z2 HZ
  go_enter Try.func9, Try.ntmps9
  go_wp2_with fail
  refine bodyPost_ret (v := PV ⟨k, n, b, s⟩) ?_ rfl ⟨rfl, HB.out⟩
  exact res1P Try.results9 rfl HM.out
/-- what one put comes to -/
def putB (k n : Int) (b : Bool) (s : ByteArray) : List Int :=
  if k = 1 then (if n < 0 then [] else numB n.toNat) else if k = 2 then [flagB b] else if k = 3 ∨ k = 4 then numB s.size ++ strB s else []
def putOK (k n : Int) : Bool := !decide (k = 1 ∧ n < 0)
/-- the loop's variables: ahead of the put, and behind it -/
def InBt (w wr : World) (k n : Int) (b : Bool) (s : ByteArray) (v i : Value) : Prop :=
  (i = .int .i64 0 ∧ v = .slice none 0 0 ∧ wr = w) ∨ (i = .int .i64 1 ∧ putOK k n = true ∧ ∃ bo m cc, v = .slice bo m cc ∧ BR wr bo m cc (putB k n b s) ∧ NewB w wr bo)
theorem NewB.of_ap {bo : Option Addr} (h : Ap w w' none bo) : NewB w w' bo :=
  ⟨⟨h.grown.os, h.grown.tape, h.grown.output, h.grown.size, fun k hk => h.grown.block k hk (fun e => by cases e)⟩, fun k hk => by
    rcases h.lies with e | ⟨j, e, hj⟩
    · rw [e] at hk; cases hk
    · rw [e] at hk
      have := Option.some.inj hk
      omega⟩
theorem NewB.pre {bo : Option Addr} (hb : Below w.heap.size w w') (h : NewB w' w2 bo) : NewB w w2 bo :=
  ⟨hb.trans (h.1.mono hb.size), fun k hk => Nat.le_trans hb.size (h.2 k hk)⟩
theorem BR.below {ao : Option Addr} {n cap : Nat} {Z : List Int} (h : BR w ao n cap Z) (hb : Below w.heap.size w w') : BR w' ao n cap Z := h.keep fun k hk => hb.block k (h.lt k hk)
theorem strB_at (s : ByteArray) (j : Nat) (hj : j < s.size) : (strB s).getD j 0 = ((s.data.toList.getD j 0).toNat : Int) := by
  have hl : j < s.data.toList.length := hj
  rw [strB, List.getD_eq_getElem?_getD, List.getElem?_map, List.getD_eq_getElem?_getD, List.getElem?_eq_getElem hl]
  rfl
/-- []byte(s) -/
theorem conv_bs (w : World) (s : ByteArray) : ∃ (w' : World) (c : Nat), (convert 9 27 (.string s)).run Try.prog w = .ok (.slice (some ⟨w.heap.size, 0, none⟩) s.size c) w' ∧ BS w' (some ⟨w.heap.size, 0, none⟩) s.size c (strB s) ∧ Below w.heap.size w w' ∧ w'.heap.size = w.heap.size + 1 := by
  refine ⟨Lib.bytesWorld w 5 s, _, Lib.run_convert_string_bytes w 9 27 5 s Try.underlying9 Try.underlying27 Try.underlying5, ⟨strB_length s, (fun h => by cases h), fun ad ha t ht => ?_⟩, ⟨rfl, rfl, rfl, by rw [Lib.bytesWorld_size]; omega, fun k hk => Lib.bytesWorld_at_old w _ s k hk⟩, Lib.bytesWorld_size w _ s⟩
  obtain rfl := Option.some.inj ha
  rw [Addr.add_lit, Nat.zero_add, Lib.bytesWorld_cell w _ s t ht, strB_at s t ht]
theorem NewB.ap {bo co : Option Addr} {w0 : World} (h : NewB w0 w bo) (k : Ap w w' bo co) : NewB w0 w' co := by
  refine ⟨h.1.trans ⟨k.grown.os, k.grown.tape, k.grown.output, k.grown.size, fun i hi => k.grown.block i (Nat.lt_of_lt_of_le hi h.1.size) (fun e => ?_)⟩, fun j hj => ?_⟩
  · have := h.2 i e.symm
    omega
  · rcases k.lies with e | ⟨q, e, hq⟩
    · exact h.2 j (e ▸ hj)
    · rw [e] at hj
      have := Option.some.inj hj
      have := h.1.size
      omega
set_option maxRecDepth 100000 in
theorem bytes_any (k n : Int) (b : Bool) (s : ByteArray) (q : Nat) (w : World) (A : PAt w ⟨q, 0, none⟩ ⟨k, n, b, s⟩) (hn : n ≤ 9223372036854775807) (hs : s.size ≤ 70368744177664) : Calls Try.prog 8 #[.slice (some ⟨q, 0, none⟩) 1 1] w fun r w' =>
    (putOK k n = true → ∃ bo m cc, r = .returned (.tuple #[.slice bo m cc, .bool true]) ∧ BR w' bo m cc (putB k n b s) ∧ NewB w w' bo) ∧
    (putOK k n = false → r = .returned (.tuple #[.slice none 0 0, .bool false]) ∧ Below w.heap.size w w') := by
  have HA := hide A
  have HN := hide (And.intro hn hs)
  clear A hn hs
  go_enter Try.func8, Try.ntmps8
  go_wp2_with fail
  go_loopw [4, 5] (fun v i wr => Hid (InBt w wr k n b s v i)) (fun _ i _ => (1 - intOf i).toNat)
  case atStart => exact Or.inl ⟨rfl, rfl, rfl⟩
  case round =>
    rcases hrel.out with ⟨rfl, rfl, rfl⟩ | ⟨rfl, hok, bo, m, cc, rfl, B, N⟩
    · clear hrel
      have hld := run_laP HA.out
      obtain ⟨g1, hg1⟩ : ∃ g1, wr.heap.size = g1 := ⟨_, rfl⟩
      obtain ⟨w2, hst, M2, b2, z2⟩ := madeP wr ⟨k, n, b, s⟩ g1 hg1
      simp only [p0] at hst
      have HM := hide M2
      have HB := hide b2
      have y0 := M2.c0
      have y1 := M2.c1
      have y2 := M2.c2
      have y3 := M2.c3
      simp only at y0 y1 y2 y3
      clear M2 b2 z2
      by_cases h1 : k = 1
      · subst h1
        by_cases h0 : n < 0
        · have HF : Hid (putOK 1 n = false) := by show _ = _; simp [putOK, h0]
          go_wp2_with fail
          go_ret2
          exact ⟨fun h => absurd (HF.out.symm.trans h) (by decide), fun _ => ⟨rfl, HB.out⟩⟩
        · obtain ⟨N, rfl⟩ : ∃ N : Nat, n = N := ⟨n.toNat, by omega⟩
          have HF : Hid (putOK 1 N = true ∧ putB 1 N b s = numB N) := ⟨by simp [putOK, h0], by simp [putB, h0]⟩
          go_wp2_with fail
          refine (refNum_any N w2 (by have := HN.out.1; omega)).mono ?_
          rintro r w3 ⟨bo, cc, rfl, B3, A3⟩
          have HB3 := hide B3
          have HA3 := hide ((NewB.of_ap A3).pre HB.out)
          have HL : Hid (0 + (numB N).length ≤ 140737488355328) := by show _ ≤ _; have := numB_nine (n := N) (by have := HN.out.1; omega); omega
          clear B3 A3
          go_wp2_with (at_builtin; refine (BR.nil w3).appB HB3.out.bs HL.out rfl (.tmp 24) (.tmp 27) rfl rfl rfl ?_; intro b5 c5 w5 S5 A5; rw [Nat.zero_add] at S5; have HS5 := hide S5; have HA5 := hide ((NewB.of_ap A5).pre HA3.out.1); clear S5 A5)
          go_roundw
          case rel => exact Or.inr ⟨rfl, HF.out.1, _, _, _, rfl, by rw [HF.out.2]; exact HS5.out, HA5.out⟩
          case measure => simp [intOf]
      · by_cases h2 : k = 2
        · subst h2
          have HF : Hid (putOK 2 n = true ∧ putB 2 n b s = [flagB b]) := ⟨by simp [putOK], by simp [putB]⟩
          cases b with
          | true =>
            go_wp2_with (at_builtin; refine (BR.nil w2).app1 1 (by omega) rfl (.tmp 33) (.tmp 34) rfl rfl rfl ?_; intro b5 c5 w5 S5 A5; have HS5 := hide S5; have HA5 := hide ((NewB.of_ap A5).pre HB.out); clear S5 A5)
            go_roundw
            case rel => exact Or.inr ⟨rfl, HF.out.1, _, _, _, rfl, by rw [HF.out.2]; exact HS5.out, HA5.out⟩
            case measure => simp [intOf]
          | false =>
            go_wp2_with (at_builtin; refine (BR.nil w2).app1 0 (by omega) rfl (.tmp 36) (.tmp 37) rfl rfl rfl ?_; intro b5 c5 w5 S5 A5; have HS5 := hide S5; have HA5 := hide ((NewB.of_ap A5).pre HB.out); clear S5 A5)
            go_roundw
            case rel => exact Or.inr ⟨rfl, HF.out.1, _, _, _, rfl, by rw [HF.out.2]; exact HS5.out, HA5.out⟩
            case measure => simp [intOf]
        · have HO : Hid (putOK k n = true) := by show _ = _; simp [putOK, h1]
          by_cases h3 : k = 3
          · subst h3
            have HF : Hid (putB 3 n b s = numB s.size ++ strB s) := by show _ = _; simp [putB]
            go_wp2_with fail
            refine (refNum_any s.size w2 (by have := HN.out.2; omega)).mono ?_
            rintro r w3 ⟨bo, cc, rfl, B3, A3⟩
            have HB3 := hide B3
            have HA3 := hide ((NewB.of_ap A3).pre HB.out)
            have HM3 := hide (HM.out.below (NewB.of_ap A3).1)
            have HL : Hid (0 + (numB s.size).length ≤ 140737488355328 ∧ (numB s.size).length + s.size ≤ 140737488355328) := by show _ ∧ _; have := HN.out.2; have := numB_nine (n := s.size) (by omega); omega
            clear B3 A3
            go_wp2_with (first | (at_builtin; refine (BR.nil w3).appB HB3.out.bs HL.out.1 rfl (.tmp 42) (.tmp 46) rfl rfl rfl ?_; intro b5 c5 w5 S5 A5; rw [Nat.zero_add] at S5; obtain ⟨w6, c6, hcv, S6, b6, z6⟩ := conv_bs w5 s; have HS5 := hide (S5.below b6); have HN6 : Hid (NewB wr w6 b5) := ⟨(((NewB.of_ap A5).pre HA3.out.1).1).trans (b6.mono ((NewB.of_ap A5).pre HA3.out.1).1.size), ((NewB.of_ap A5).pre HA3.out.1).2⟩; have x3 := (HM3.out.below (NewB.of_ap A5).1).c3; have HS6 := hide S6; simp only at x3; clear S5 A5 S6 b6 z6) | (at_builtin; refine HS5.out.appB HS6.out HL.out.2 rfl (.tmp 48) (.tmp 51) rfl rfl rfl ?_; intro b7 c7 w7 S7 A7; have HS7 := hide S7; have HN7 := hide (HN6.out.ap A7); clear S7 A7))
            go_roundw
            case rel => exact Or.inr ⟨rfl, HO.out, _, _, _, rfl, by rw [HF.out]; exact HS7.out, HN7.out⟩
            case measure => simp [intOf]
          · by_cases h4 : k = 4
            · subst h4
              have HF : Hid (putB 4 n b s = numB s.size ++ strB s) := by show _ = _; simp [putB]
              go_wp2_with fail
              refine (refNum_any s.size w2 (by have := HN.out.2; omega)).mono ?_
              rintro r w3 ⟨bo, cc, rfl, B3, A3⟩
              have HB3 := hide B3
              have HA3 := hide ((NewB.of_ap A3).pre HB.out)
              have HM3 := hide (HM.out.below (NewB.of_ap A3).1)
              have HL : Hid (0 + (numB s.size).length ≤ 140737488355328 ∧ (numB s.size).length + s.size ≤ 140737488355328) := by show _ ∧ _; have := HN.out.2; have := numB_nine (n := s.size) (by omega); omega
              clear B3 A3
              go_wp2_with (first | (at_builtin; refine (BR.nil w3).appB HB3.out.bs HL.out.1 rfl (.tmp 42) (.tmp 46) rfl rfl rfl ?_; intro b5 c5 w5 S5 A5; rw [Nat.zero_add] at S5; obtain ⟨w6, c6, hcv, S6, b6, z6⟩ := conv_bs w5 s; have HS5 := hide (S5.below b6); have HN6 : Hid (NewB wr w6 b5) := ⟨(((NewB.of_ap A5).pre HA3.out.1).1).trans (b6.mono ((NewB.of_ap A5).pre HA3.out.1).1.size), ((NewB.of_ap A5).pre HA3.out.1).2⟩; have x3 := (HM3.out.below (NewB.of_ap A5).1).c3; have HS6 := hide S6; simp only at x3; clear S5 A5 S6 b6 z6) | (at_builtin; refine HS5.out.appB HS6.out HL.out.2 rfl (.tmp 48) (.tmp 51) rfl rfl rfl ?_; intro b7 c7 w7 S7 A7; have HS7 := hide S7; have HN7 := hide (HN6.out.ap A7); clear S7 A7))
              go_roundw
              case rel => exact Or.inr ⟨rfl, HO.out, _, _, _, rfl, by rw [HF.out]; exact HS7.out, HN7.out⟩
              case measure => simp [intOf]
            · have HF : Hid (putB k n b s = []) := by show _ = _; simp [putB, h1, h2, h3, h4]
              go_wp2_with fail
              go_roundw
              case rel => exact Or.inr ⟨rfl, HO.out, _, _, _, rfl, by rw [HF.out]; exact BR.nil _, HB.out, fun k hk => by cases hk⟩
              case measure => simp [intOf]
    · have HB := hide B
      have HNB := hide N
      have HOK := hide hok
      clear B N hok hrel
      go_wp2_with fail
      go_ret2
      exact ⟨fun _ => ⟨_, _, _, rfl, HB.out, HNB.out⟩, fun h => absurd (HOK.out.symm.trans h) (by decide)⟩
end Go.Proofs.Ytebedjhfdncabaa
