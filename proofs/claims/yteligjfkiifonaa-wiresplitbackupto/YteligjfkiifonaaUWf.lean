/- WireFrames: the law. -/
import Derived.Test.YteligjfkiifonaaUSs
import Derived.Test.YteligjfkiifonaaUJp
import Derived.Lib.SlBytesConst
namespace Go.Proofs.Yteligjfkiifonaa
open Go.RowKit
variable {w w' w2 : World} {lo : Option Addr} {ln lc : Nat} {L : List (List Int)} {Z : List Int}

/-- the frames that Split answers -/
def spD (Z : List Int) : List (List Int) := if (splA Z).2 = 0 then (splA Z).1 else []
theorem SpA.ls {r : Ending} (h : SpA w w' Z r) : ∃ lo lc, r = .returned (.tuple #[.slice lo (spD Z).length lc, .int .i64 (splA Z).2]) ∧ Below w.heap.size w w' ∧ LS w' lo (spD Z).length lc (spD Z) := by
  obtain ⟨lo, ln, lc, hr, hb, h1, h2⟩ := h
  by_cases h0 : (splA Z).2 = 0
  · have G := (h1 h0).ls
    have e : spD Z = (splA Z).1 := if_pos h0
    have hl := G.len
    rw [← e] at G hl
    subst hl
    exact ⟨lo, lc, hr, hb, G⟩
  · obtain ⟨rfl, rfl, rfl⟩ := h2 h0
    have e : spD Z = [] := if_neg h0
    rw [e]
    exact ⟨none, 0, hr, hb, rfl, fun _ => ⟨rfl, rfl⟩, fun ad h => (by cases h)⟩
theorem spl_len : ∀ (f : Nat) (Z : List Int), (spl f Z).1.length ≤ Z.length
  | 0, Z => Nat.zero_le _
  | f + 1, Z => by
    unfold spl
    split
    · exact Nat.zero_le _
    · split
      · exact Nat.zero_le _
      · rename_i hz hp
        have hk := nmK_pos (by simpa using hp)
        have ih := spl_len f (Z.drop (nmK Z + nmV Z))
        rw [List.length_drop] at ih
        simp only [List.length_cons]
        omega
theorem spD_len (Z : List Int) : (spD Z).length ≤ Z.length := by
  unfold spD
  split
  · exact spl_len _ Z
  · exact Nat.zero_le _
/-- three frames, laid -/
theorem lit3 (w : World) : LS (((w.alloc (.cells #[.int .u8 65] 5 (1, 2))).alloc (.cells #[.int .u8 66, .int .u8 67] 5 (2, 3))).alloc (.cells #[.slice (some ⟨w.heap.size, 0, none⟩) 1 1, .slice none 0 0, .slice (some ⟨w.heap.size + 1, 0, none⟩) 2 2] 23)) (some ⟨w.heap.size + 1 + 1, 0, none⟩) 3 3 [[65], [], [66, 67]] := by
  have h1 := heap_alloc_new w (.cells #[.int .u8 65] 5 (1, 2))
  have s1 := World.size_alloc w (.cells #[.int .u8 65] 5 (1, 2))
  generalize w.alloc (.cells #[.int .u8 65] 5 (1, 2)) = w1 at h1 s1
  have b2 := below_new w1 (.cells #[.int .u8 66, .int .u8 67] 5 (2, 3))
  have h2 := heap_alloc_new w1 (.cells #[.int .u8 66, .int .u8 67] 5 (2, 3))
  have s2 := World.size_alloc w1 (.cells #[.int .u8 66, .int .u8 67] 5 (2, 3))
  generalize w1.alloc (.cells #[.int .u8 66, .int .u8 67] 5 (2, 3)) = w2 at b2 h2 s2
  have b3 := below_new w2 (.cells #[.slice (some ⟨w.heap.size, 0, none⟩) 1 1, .slice none 0 0, .slice (some ⟨w.heap.size + 1, 0, none⟩) 2 2] 23)
  have h3 := heap_alloc_new w2 (.cells #[.slice (some ⟨w.heap.size, 0, none⟩) 1 1, .slice none 0 0, .slice (some ⟨w.heap.size + 1, 0, none⟩) 2 2] 23)
  generalize w2.alloc (.cells #[.slice (some ⟨w.heap.size, 0, none⟩) 1 1, .slice none 0 0, .slice (some ⟨w.heap.size + 1, 0, none⟩) 2 2] 23) = w3 at b3 h3
  have g1 := (b3.block _ (by omega)).trans ((b2.block _ (by omega)).trans h1)
  have g2 := (b3.block _ (by omega)).trans h2
  rw [s1] at g2
  rw [s2, s1] at h3
  refine ⟨rfl, fun h => (by cases h), fun ad ha i hi => ?_⟩
  obtain rfl := Option.some.inj ha
  match i, hi with
  | 0, _ =>
    refine ⟨some ⟨w.heap.size, 0, none⟩, 1, 1, by rw [Addr.add_lit]; simp [World.cell?, h3], rfl, fun h => (by cases h), fun ad ha t ht => ?_⟩
    obtain rfl := Option.some.inj ha
    match t, ht with
    | 0, _ => rw [Addr.add_lit]; simp [World.cell?, g1]
  | 1, _ => exact ⟨none, 0, 0, by rw [Addr.add_lit]; simp [World.cell?, h3], BS.nil_ _⟩
  | 2, _ =>
    refine ⟨some ⟨w.heap.size + 1, 0, none⟩, 2, 2, by rw [Addr.add_lit]; simp [World.cell?, h3], rfl, fun h => (by cases h), fun ad ha t ht => ?_⟩
    obtain rfl := Option.some.inj ha
    match t, ht with
    | 0, _ => rw [Addr.add_lit]; simp [World.cell?, g2]
    | 1, _ => rw [Addr.add_lit]; simp [World.cell?, g2]
theorem join3 : joinB [[65], [], [66, 67]] = [1, 65, 0, 2, 66, 67] := by
  simp [joinB, numB_lt]
theorem str3 : strOfNums [1, 65, 0, 2, 66, 67] = ⟨#[1, 65, 0, 2, 66, 67]⟩ := rfl
set_option maxRecDepth 100000 in
set_option maxHeartbeats 2000000 in
theorem wireFrames_any (lo : Option Addr) (ln lc : Nat) (L : List (List Int)) (bo : Option Addr) (n c : Nat) (Z : List Int) (w : World) (S : LS w lo ln lc L) (hln : ln ≤ 140737488355328) (hL : (joinB L).length ≤ 140737488355000) (B : Src w bo n c Z) (hcap : n ≤ c) (hz : n < 4000000000000) :
    Calls Try.prog 3 #[.slice lo ln lc, .slice bo n c] w fun r w' => r = .returned (.bool true) ∧ Below w.heap.size w w' := by
  have hc1 := Lib.run_convert_bytes_const (P := Try.prog) w 23 5 #[.int .u8 65] 1 1 Try.underlying23 Try.underlying5
  have hc2 := Lib.run_convert_bytes_const (P := Try.prog) (w.alloc (.cells #[.int .u8 65] 5 (1, 2))) 23 5 #[.int .u8 66, .int .u8 67] 2 2 Try.underlying23 Try.underlying5
  rw [World.size_alloc] at hc2
  have HS := hide S
  have HN : Hid (ln ≤ 140737488355328 ∧ (joinB L).length ≤ 140737488355000 ∧ n ≤ c ∧ n < 4000000000000) := ⟨hln, hL, hcap, hz⟩
  have HB := hide B
  have HC1 := hide (join_any _ 3 3 _ _ (lit3 w) (by decide) (by rw [join3]; decide))
  have b1 := below_new w (.cells #[.int .u8 65] 5 (1, 2))
  have b2 := below_new (w.alloc (.cells #[.int .u8 65] 5 (1, 2))) (.cells #[.int .u8 66, .int .u8 67] 5 (2, 3))
  have b3 := below_new ((w.alloc (.cells #[.int .u8 65] 5 (1, 2))).alloc (.cells #[.int .u8 66, .int .u8 67] 5 (2, 3))) (.cells #[.slice (some ⟨w.heap.size, 0, none⟩) 1 1, .slice none 0 0, .slice (some ⟨w.heap.size + 1, 0, none⟩) 2 2] 23)
  have HB3 := hide (b1.trans ((b2.trans (b3.mono b2.size)).mono b1.size))
  clear S hln hL B hcap hz b1 b2 b3
  go_enter Try.func3, Try.ntmps3
  go_wp2_with fail
  refine HC1.out.mono ?_
  rintro r w1 ⟨b1, l1, c1, rfl, B1, N1⟩
  have hl1 := B1.len
  rw [join3] at B1 hl1
  have hs1 := B1.bs.str
  rw [str3] at hs1
  have HB1 := hide (HB3.out.trans (N1.1.mono HB3.out.size))
  have HC2 := hide (refJoin_any lo ln lc L w1 (HS.out.below HB1.out) HN.out.1 HN.out.2.1)
  clear B1 N1 HB3 HC1 hl1 hc1 hc2
  go_wp2_with fail
  refine HC2.out.mono ?_
  rintro r w2 ⟨b2, l2, c2, rfl, B2, N2⟩
  have hs2 := B2.bs.str
  have HB2 := hide (HB1.out.trans (N2.1.mono HB1.out.size))
  have HC3 := hide (join_any lo ln lc L w2 (HS.out.below HB2.out) HN.out.1 HN.out.2.1)
  clear B2 N2 HC2 hs1
  go_wp2_with fail
  refine HC3.out.mono ?_
  rintro r w3 ⟨b3, l3, c3, rfl, B3, N3⟩
  have hs3 := B3.bs.str
  have HB4 := hide (HB2.out.trans (N3.1.mono HB2.out.size))
  have HC4 := hide (refSplit_any bo n c Z w3 (HB.out.below HB4.out) HN.out.2.2.1 HN.out.2.2.2)
  clear B3 N3 HC3 hs2
  go_wp2_with fail
  refine HC4.out.mono ?_
  intro r w4 h4
  obtain ⟨p4, q4, rfl, b4, L4⟩ := h4.ls
  have HB5 := hide (HB4.out.trans (b4.mono HB4.out.size))
  have HC5 := hide (split_any bo n c Z w4 (HB.out.below HB5.out) HN.out.2.2.1 HN.out.2.2.2)
  have HL4 := hide L4
  clear h4 b4 L4 HC4 hs3
  go_wp2_with fail
  refine HC5.out.mono ?_
  intro r w5 h5
  obtain ⟨p5, q5, rfl, b5, L5⟩ := h5.ls
  have HB6 := hide (HB5.out.trans (b5.mono HB5.out.size))
  have HL5 := hide L5
  have HL6 := hide (HL4.out.below b5)
  have HM : Hid ((spD Z).length ≤ 4611686018427387904) := by show _ ≤ _; have := spD_len Z; have := HB.out.1; have := HN.out.2.2.2; omega
  generalize splA Z = x at *
  clear h5 b5 L5 HC5 HL4
  go_wp2_with fail
  go_loopw [11] (fun i wr => ∃ k : Nat, k ≤ (spD Z).length ∧ i = .int .i64 k ∧ Hid (Below w5.heap.size w5 wr)) (fun i _ => (spD Z).length - (intOf i).toNat)
  case atStart => exact ⟨0, Nat.zero_le _, rfl, Below.refl _ _⟩
  case round =>
    obtain ⟨k, hk, rfl, HBr⟩ := hrel
    by_cases hlt : k < (spD Z).length
    · have HLT := hide hlt
      have HK1 : Hid (wrap64 ((k : Int) + 1) = ((k + 1 : Nat) : Int)) := by show _ = _; have := HM.out; rw [w64 (by omega) (by omega)]; rfl
      obtain ⟨a1, s1, m1, d1, rfl, hc1, S1⟩ := (HL5.out.below HBr.out).at k hlt
      obtain ⟨a2, s2, m2, d2, rfl, hc2, S2⟩ := (HL6.out.below HBr.out).at k hlt
      obtain ⟨Y, hY⟩ : ∃ Y, (spD Z).getD k [] = Y := ⟨_, rfl⟩
      rw [hY] at S1 S2
      have hv1 : ∀ i, (convert 23 9 (.slice s1 m1 d1)).run Try.prog (wr.drewN i) = .ok (.string (strOfNums Y)) (wr.drewN i) := fun i => (S1.below (below_drewN wr i)).str
      have hv2 : ∀ i, (convert 23 9 (.slice s2 m2 d2)).run Try.prog (wr.drewN i) = .ok (.string (strOfNums Y)) (wr.drewN i) := fun i => (S2.below (below_drewN wr i)).str
      clear S1 S2 hY
      go_wp2_with fail
      go_quiet (fail)
      have HE := hide (HBr.out.trans ((below_drewN wr nq).mono HBr.out.size))
      clear hv1 hv2 hc1 hc2 HBr
      go_wp2_with fail
      go_roundw
      case rel => exact ⟨k + 1, HLT.out, by rw [HK1.out], HE⟩
      case measure => rw [HK1.out]; have := HLT.out; simp [intOf]; omega
    · have HE := hide (HB6.out.trans (HBr.out.mono HB6.out.size))
      go_wp2_with fail
      go_ret
      exact ⟨rfl, HE.out⟩
end Go.Proofs.Yteligjfkiifonaa
