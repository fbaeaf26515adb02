/- SettleReach: the law. -/
import Derived.Test.YtckehmhieigglaaESl
namespace Go.Proofs.Ytckehmhieigglaa
open Go.RowKit
variable {w w' w2 w0 wr : World} {g n : Nat} {F : Nat → Sl} {X Y : Nat → List Int}

theorem NSrc.lit (w : World) (l : List Int) (cs : Array Value) (m : Nat) (hcs : cs = (ics l).toArray) (hm : l.length = m) : NSrc (w.alloc (.cells cs 3)) (some ⟨w.heap.size, 0, none⟩) m m l := by
  subst hcs
  refine ⟨hm, (fun h => by cases h), fun ad h t ht => ?_⟩
  obtain rfl := Option.some.inj h
  rw [Addr.add_lit, Nat.zero_add, World.cell?_alloc_new]
  simp [ics, List.getD, show t < l.length by omega]
theorem PSrc.lit2 (w : World) (a b c d : Int) : PSrc (w.alloc (.cells #[.int .i64 a, .int .i64 b, .int .i64 c, .int .i64 d] 28)) (some ⟨w.heap.size, 0, none⟩) 2 2 [⟨a, b⟩, ⟨c, d⟩] := by
  refine ⟨rfl, (fun h => by cases h), fun ad h k hk => ?_⟩
  obtain rfl := Option.some.inj h
  rcases (show k = 0 ∨ k = 1 by omega) with rfl | rfl
  · exact ⟨by rw [Addr.add_lit, World.cell?_alloc_new]; rfl, by rw [Addr.add_lit, Addr.add_lit, World.cell?_alloc_new]; rfl⟩
  · exact ⟨by rw [Addr.add_lit, World.cell?_alloc_new]; rfl, by rw [Addr.add_lit, Addr.add_lit, World.cell?_alloc_new]; rfl⟩
def x3 : Nat → List Int := fun i => rl (knw 3 [⟨0, 1⟩, ⟨1, 2⟩] i) 3
theorem x3_0 : x3 0 = [0] := by decide
theorem x3_1 : x3 1 = [0, 1] := by decide
theorem x3_2 : x3 2 = [0, 1, 2] := by decide
/-- the document's example, laid -/
theorem lit3 (w : World) {w1 w2 w3 w4 : World} (h1 : w1 = w.alloc (.cells #[.int .i64 0] 3)) (h2 : w2 = w1.alloc (.cells #[.int .i64 0, .int .i64 1] 3)) (h3 : w3 = w2.alloc (.cells #[.int .i64 0, .int .i64 1, .int .i64 2] 3))
    (h4 : w4 = w3.alloc (.cells #[.slice (some ⟨w.heap.size, 0, none⟩) 1 1, .slice (some ⟨w1.heap.size, 0, none⟩) 2 2, .slice (some ⟨w2.heap.size, 0, none⟩) 3 3] 37)) : MSrc w4 (some ⟨w3.heap.size, 0, none⟩) 3 x3 ∧ Below w.heap.size w w4 := by
  have s1 := NSrc.lit w [0] #[.int .i64 0] 1 rfl rfl
  have s2 := NSrc.lit w1 [0, 1] #[.int .i64 0, .int .i64 1] 2 rfl rfl
  have s3 := NSrc.lit w2 [0, 1, 2] #[.int .i64 0, .int .i64 1, .int .i64 2] 3 rfl rfl
  have b1 := below_new w (.cells #[.int .i64 0] 3)
  have b2 := below_new w1 (.cells #[.int .i64 0, .int .i64 1] 3)
  have b3 := below_new w2 (.cells #[.int .i64 0, .int .i64 1, .int .i64 2] 3)
  have b4 := below_new w3 (.cells #[.slice (some ⟨w.heap.size, 0, none⟩) 1 1, .slice (some ⟨w1.heap.size, 0, none⟩) 2 2, .slice (some ⟨w2.heap.size, 0, none⟩) 3 3] 37)
  rw [← h1] at s1 b1
  rw [← h2] at s2 b2
  rw [← h3] at s3 b3
  rw [← h4] at b4
  have c : ∀ i, w4.cell? ⟨w3.heap.size, i, none⟩ = (#[.slice (some ⟨w.heap.size, 0, none⟩) 1 1, .slice (some ⟨w1.heap.size, 0, none⟩) 2 2, .slice (some ⟨w2.heap.size, 0, none⟩) 3 3] : Array Value)[i]? := fun i => by rw [h4]; exact World.cell?_alloc_new _ _ _ i
  refine ⟨⟨fun i hi => ?_⟩, b1.trans ((b2.trans ((b3.trans (b4.mono b3.size)).mono b2.size)).mono b1.size)⟩
  rcases (show i = 0 ∨ i = 1 ∨ i = 2 by omega) with rfl | rfl | rfl
  · exact ⟨_, _, _, _, rfl, by rw [Addr.add_lit]; exact c 0, by rw [x3_0]; exact ((s1.below b2).below b3).below b4⟩
  · exact ⟨_, _, _, _, rfl, by rw [Addr.add_lit]; exact c 1, by rw [x3_1]; exact (s2.below b3).below b4⟩
  · exact ⟨_, _, _, _, rfl, by rw [Addr.add_lit]; exact c 2, by rw [x3_2]; exact s3.below b4⟩
theorem lit3' (w : World) : MSrc ((((w.alloc (.cells #[.int .i64 0] 3)).alloc (.cells #[.int .i64 0, .int .i64 1] 3)).alloc (.cells #[.int .i64 0, .int .i64 1, .int .i64 2] 3)).alloc (.cells #[.slice (some ⟨w.heap.size, 0, none⟩) 1 1, .slice (some ⟨w.heap.size + 1, 0, none⟩) 2 2, .slice (some ⟨w.heap.size + 1 + 1, 0, none⟩) 3 3] 37)) (some ⟨w.heap.size + 1 + 1 + 1, 0, none⟩) 3 x3 ∧
    Below w.heap.size w ((((w.alloc (.cells #[.int .i64 0] 3)).alloc (.cells #[.int .i64 0, .int .i64 1] 3)).alloc (.cells #[.int .i64 0, .int .i64 1, .int .i64 2] 3)).alloc (.cells #[.slice (some ⟨w.heap.size, 0, none⟩) 1 1, .slice (some ⟨w.heap.size + 1, 0, none⟩) 2 2, .slice (some ⟨w.heap.size + 1 + 1, 0, none⟩) 3 3] 37)) := by
  have := lit3 w rfl rfl rfl (by simp only [World.size_alloc]; rfl)
  simpa only [World.size_alloc] using this
theorem reach3 (w : World) : Calls Try.prog 15 #[.int .i64 3, .slice (some ⟨w.heap.size, 0, none⟩) 2 2] (w.alloc (.cells #[.int .i64 0, .int .i64 1, .int .i64 1, .int .i64 2] 28)) fun e w' => ∃ g F, e = .returned (.slice (some ⟨g, 0, none⟩) 3 3) ∧ Mat (w.alloc (.cells #[.int .i64 0, .int .i64 1, .int .i64 1, .int .i64 2] 28)) w' g 3 F x3 :=
  reach_any 3 _ 2 2 _ _ (PSrc.lit2 w 0 1 1 2) (by omega)
set_option maxRecDepth 100000 in
theorem settleReach_any (r : Int) (ao : Option Addr) (n c : Nat) (L : List Pr) (w : World) (S : PSrc w ao n c L) (hn : n ≤ 8796093021952) : Calls Try.prog 5 #[.int .i64 r, .slice ao n c] w fun e w' => e = .returned (.bool true) ∧ Below w.heap.size w w' := by
  have HS := hide S
  have HR3 := hide (reach3 w)
  have HR := hide (reach_any r)
  have HQ := hide (refReach_any r)
  have hk := (clN_le r).2
  obtain ⟨k, hkk⟩ : ∃ k, clN r = k := ⟨_, rfl⟩
  rw [hkk] at HR HQ hk
  clear S hkk
  have HLe : Hid (∀ i, (rl (knw k L i) k).length ≤ 1000) := fun i => Nat.le_trans (rl_len _ _) (by omega)
  have HL3 : Hid (∀ i, (x3 i).length ≤ 1000) := fun i => Nat.le_trans (rl_len _ _) (by omega)
  go_enter Try.func5, Try.ntmps5
  go_wp2_with (first
    | (go_at_call 15; refine HR3.out.mono ?_; rintro e w1 ⟨g1, F1, rfl, M1⟩; have HM1 := hide M1; obtain ⟨l1, l2⟩ := lit3' w1; have HLi := hide l1; have HLb := hide l2; clear M1 HR3 l1 l2)
    | (go_at_call 14; refine (sameLists_true _ _ _ x3 _ _ _ (HM1.out.src.below HLb.out) HLi.out (by omega) HL3.out).mono ?_; rintro e w2 ⟨rfl, b2⟩; have HB2 := hide ((below_new w _).trans ((HM1.out.bel.trans ((HLb.out.trans (b2.mono HLb.out.size)).mono HM1.out.bel.size)).mono (below_new w (.cells #[.int .i64 0, .int .i64 1, .int .i64 1, .int .i64 2] 28)).size)); have HS2 := hide (HS.out.below HB2.out); clear b2 HLi)
    | (go_at_call 16; refine (copyPairs_any _ _ _ _ _ HS2.out (by omega)).mono ?_; rintro e w3 ⟨b3, c3, rfl, R3, N3⟩; have HR3 := hide R3; have HB3 := hide (HB2.out.trans (N3.1.mono HB2.out.size)); have HS3 := hide (HS2.out.below N3.1); clear R3 N3)
    | (go_at_call 15; refine (HR.out _ _ _ _ _ HR3.out.src (by omega)).mono ?_; rintro e w4 ⟨g4, F4, rfl, M4⟩; have HM4 := hide M4; have HB4 := hide (HB3.out.trans (M4.bel.mono HB3.out.size)); have HS4 := hide (HS3.out.below M4.bel); have HR4 := hide (HR3.out.below M4.bel); clear M4 HR)
    | (go_at_call 18; refine (toRef_any _ _ _ _ _ HS4.out (by omega)).mono ?_; rintro e w5 ⟨b5, c5, rfl, R5, N5⟩; have HR5 := hide R5; have HB5 := hide (HB4.out.trans (N5.1.mono HB4.out.size)); have HS5 := hide (HS4.out.below N5.1); have HM5 := hide (HM4.out.below N5.1); have HR45 := hide (HR4.out.below N5.1); clear R5 N5)
    | (go_at_call 17; refine (HQ.out _ _ _ _ _ HR5.out.src (by omega)).mono ?_; rintro e w6 ⟨g6, F6, rfl, M6⟩; have HM6 := hide M6; have HB6 := hide (HB5.out.trans (M6.bel.mono HB5.out.size)); have HS6 := hide (HS5.out.below M6.bel); have HR6 := hide (HR45.out.below M6.bel); have HM56 := hide (HM5.out.below M6.bel); clear M6)
    | (go_at_call 14; refine (sameLists_true _ _ _ _ _ _ _ HM56.out.src HM6.out.src hk HLe.out).mono ?_; rintro e w7 ⟨rfl, b7⟩; have HB7 := hide (HB6.out.trans (b7.mono HB6.out.size)); have HS7 := hide (HS6.out.below b7); have HR7 := hide (HR6.out.below b7); clear b7)
    | (go_at_call 19; refine (samePair_true _ _ _ _ _ _ _ _ _ HR7.out.src HS7.out rfl (by omega)).mono ?_; rintro e w8 ⟨rfl, b8⟩; have HB8 := hide (HB7.out.trans (b8.mono HB7.out.size)); clear b8))
  go_ret
  exact ⟨rfl, HB8.out⟩
end Go.Proofs.Ytckehmhieigglaa
