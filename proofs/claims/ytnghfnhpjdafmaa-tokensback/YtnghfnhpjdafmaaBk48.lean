/- FKn -/
import Derived.Test.YtnghfnhpjdafmaaBk47
import Derived.Test.YtnghfnhpjdafmaaBk22
namespace Go.Proofs.Ytnghfnhpjdafmaa
open Go.RowKit
attribute [local go_sem ↓] ldP_eq stP_eq ldTo_eq stTo_eq bldT_eq run_bldT run_bldT0 run_bldT1
attribute [local go_sem] zero_PC cells_PV PC_size cells_ToV ToC_size zero_ToC
variable {w w' w2 W W' : World} {g gv gr : Nat} {Z : List Int}

set_option maxRecDepth 100000 in
set_option maxHeartbeats 1600000 in
theorem rtCheck_any (c : Int) (p : Pv) (w : World) (hS : PSrc w p) : Calls Try.prog 29 #[ToV (mkT c p)] w fun e w' => ∃ x, e = .returned (.int .i64 x) ∧ CkT c p.P x ∧ Below w.heap.size w w' := by
  have HX := hide (ToBox_new w (mkT c p))
  have HB := hide (below_new w (.cells (ToC (mkT c p)) 52))
  have HS := hide (hS.below HB.out)
  clear hS
  obtain ⟨wk, hwk⟩ : ∃ wk, w.alloc (.cells (ToC (mkT c p)) 52) = wk := ⟨_, rfl⟩
  obtain ⟨G, hG⟩ : ∃ G, w.heap.size = G := ⟨_, rfl⟩
  rw [hwk] at HX HB HS
  rw [hG] at HX
  have c0 := HX.out.ct
  have l0 := run_ldP HX.out.past
  have HI := hide (refIsNorm_any p wk HS.out)
  by_cases h0 : c < 0
  · have HN : Hid (CkT c p.P 1) := .inl ⟨rfl, fun h => by have := tok_bd h; omega⟩
    go_enter Try.func29, Try.ntmps29
    go_wp2_with fail
    clear hwk hG
    go_ret
    exact ⟨_, rfl, HN.out, HB.out⟩
  by_cases h64 : 64 ≤ c
  · have HN : Hid (CkT c p.P 1) := .inl ⟨rfl, fun h => by have := tok_bd h; omega⟩
    go_enter Try.func29, Try.ntmps29
    go_wp2_with fail
    clear hwk
    go_ret
    exact ⟨_, rfl, HN.out, by have h := HB.out; rw [hG] at h; exact h⟩
  have HC : Hid (isC c = true) := by show _ = _; simp [isC]; omega
  go_enter Try.func29, Try.ntmps29
  go_wp2_with fail
  refine HI.out.mono ?_
  rintro e w2 ⟨b, rfl, hb, b2⟩
  have HB2 := hide (HB.out.trans (b2.mono HB.out.size))
  clear b2 c0 l0 hwk hG
  cases b with
  | false =>
    have HN : Hid (CkT c p.P 1) := .inl ⟨rfl, fun h => by have := hb.2 h.2; cases this⟩
    clear hb
    go_wp2_with fail
    go_ret
    exact ⟨_, rfl, HN.out, HB2.out⟩
  | true =>
    have HN : Hid (CkT c p.P 0) := .inr ⟨rfl, HC.out, hb.1 rfl⟩
    clear hb
    go_wp2_with fail
    go_ret
    exact ⟨_, rfl, HN.out, HB2.out⟩
set_option maxRecDepth 100000 in
set_option maxHeartbeats 1600000 in
/-- Equal of a token and itself -/
theorem rtEqual_true (c : Int) (p q : Pv) (w : World) (hP : PSrc w p) (hQ : PSrc w q) (he : p.P = q.P) : Calls Try.prog 39 #[ToV (mkT c p), ToV (mkT c q)] w fun e w' => e = .returned (.bool true) ∧ Below w.heap.size w w' := by
  have b1 := below_new w (.cells (ToC (mkT c p)) 52)
  have x1 := ToBox_new w (mkT c p)
  have s1 := World.size_alloc w (.cells (ToC (mkT c p)) 52)
  obtain ⟨g1, hg1⟩ : ∃ g1, w.heap.size = g1 := ⟨_, rfl⟩
  obtain ⟨w1, hw1⟩ : ∃ w1, w.alloc (.cells (ToC (mkT c p)) 52) = w1 := ⟨_, rfl⟩
  rw [hw1] at b1 x1 s1
  have b2 := below_new w1 (.cells (ToC (mkT c q)) 52)
  have x2 := ToBox_new w1 (mkT c q)
  obtain ⟨w2, hw2⟩ : ∃ w2, w1.alloc (.cells (ToC (mkT c q)) 52) = w2 := ⟨_, rfl⟩
  rw [hw2] at b2 x2
  rw [s1] at x2
  rw [hg1] at x1 x2 s1
  have hb := b1.trans (b2.mono b1.size)
  have c1 := (x1.below b2).ct
  have c2 := x2.ct
  have l1 := run_ldP (x1.below b2).past
  have l2 := run_ldP x2.past
  have HC := hide (samePast_any p q w2 (hP.below hb) (hQ.below hb))
  have HB := hide hb
  have HE := hide he
  clear hP hQ b1 b2 x1 x2 hb he
  go_enter Try.func39, Try.ntmps39
  go_wp2_with fail
  refine HC.out.mono ?_
  rintro e w3 ⟨x, rfl, hx, b3⟩
  obtain rfl : x = true := hx.2 HE.out
  have HB3 := hide (HB.out.trans (b3.mono HB.out.size))
  clear hx b3
  go_wp2_with fail
  go_ret
  exact ⟨rfl, HB3.out⟩
def P37 : Pst := ⟨[3, 0, 7], []⟩
theorem form_P37 : InForm P37 := ⟨by decide, trivial⟩
theorem ok_P37 : TokOk 5 P37 := ⟨by decide, form_P37⟩
theorem text_P37 : textL 5 P37 = [48, 77, 49, 71, 54, 48, 48, 55, 48, 48, 126] := by
  have e : tokB 5 P37 = [5, 3, 3, 0, 7, 0] := by
    simp only [tokB, pastB, vecB, nB, P37, cloudB, List.flatMap_cons, List.flatMap_nil, List.length_cons, List.length_nil]
    rw [show (5 : Int).toNat = 5 from rfl, show (3 : Int).toNat = 3 from rfl, show (0 : Int).toNat = 0 from rfl, show (7 : Int).toNat = 7 from rfl]
    rw [U.numB_lt (n := 5) (by decide), U.numB_lt (n := 0 + 1 + 1 + 1) (by decide), U.numB_lt (n := 0) (by decide), U.numB_lt (n := 7) (by decide)]
    rfl
  have b : bodyF 5 P37 = [48, 77, 49, 71, 54, 48, 48, 55, 48, 48] := by
    unfold bodyF
    rw [e]
    simp only [spellF, show (0 : Nat) + 8 = 8 from rfl, show (8 : Nat) % 5 = 3 from rfl, show (3 : Nat) + 8 = 11 from rfl, show (11 : Nat) % 5 = 1 from rfl, show (1 : Nat) + 8 = 9 from rfl, show (9 : Nat) % 5 = 4 from rfl, show (4 : Nat) + 8 = 12 from rfl, show (12 : Nat) % 5 = 2 from rfl, show (2 : Nat) + 8 = 10 from rfl, show (10 : Nat) % 5 = 0 from rfl, emit8, emit9, emit10, emit11, emit12]
    decide +kernel
  unfold textL
  rw [b]
  decide +kernel
theorem text37 : strOfNums (textL 5 P37) = ⟨#[48, 77, 49, 71, 54, 48, 48, 55, 48, 48, 126]⟩ := by rw [text_P37]; decide +kernel
theorem src_P37 (w : World) (g : Nat) (hg : w.heap.size = g) : PSrc (w.alloc (.cells #[.int .i64 3, .int .i64 0, .int .i64 7] 3)) ⟨some ⟨g, 0, none⟩, 3, 3, none, 0, 0, P37⟩ := by
  subst hg
  refine ⟨⟨rfl, (fun h => by cases h), fun ad h t ht => ?_⟩, SSrc.empty _, (show (3 : Nat) ≤ 17592186044415 by decide)⟩
  obtain rfl := Option.some.inj h
  have ht1 : t < 3 := ht
  have h1 := heap_alloc_new w (.cells #[.int .i64 3, .int .i64 0, .int .i64 7] 3)
  rw [Addr.add_lit, Nat.zero_add]
  simp only [World.cell?, h1]
  match t, ht1 with
  | 0, _ => rfl
  | 1, _ => rfl
  | 2, _ => rfl
set_option maxRecDepth 100000 in
set_option maxHeartbeats 3200000 in
theorem known_any (w : World) : Calls Try.prog 23 #[] w fun e w' => e = .returned (.bool true) ∧ Below w.heap.size w w' := by
  obtain ⟨g1, hg1⟩ : ∃ g1, w.heap.size = g1 := ⟨_, rfl⟩
  have S1 := src_P37 w g1 hg1
  have b1 := below_new w (.cells #[.int .i64 3, .int .i64 0, .int .i64 7] 3)
  obtain ⟨w1, hw1⟩ : ∃ w1, w.alloc (.cells #[.int .i64 3, .int .i64 0, .int .i64 7] 3) = w1 := ⟨_, rfl⟩
  rw [hw1] at S1 b1
  obtain ⟨p, hp⟩ : ∃ p : Pv, (⟨some ⟨g1, 0, none⟩, 3, 3, none, 0, 0, P37⟩ : Pv) = p := ⟨_, rfl⟩
  have hpp : p.P = P37 := by rw [← hp]
  have hbp : (PC pv0).setIfInBounds 0 (.slice (some ⟨g1, 0, none⟩) 3 3) = PC p := by rw [← hp]; rfl
  rw [hp] at S1
  obtain ⟨g2, hg2⟩ : ∃ g2, w1.heap.size = g2 := ⟨_, rfl⟩
  obtain ⟨w2, hr2, B2, b2, s2⟩ := madeTo w1 (mkT 5 p) g2 hg2
  have l2 := run_ldTo B2
  have HB2 := hide (b1.trans (b2.mono b1.size))
  have HT := hide (text_any 5 p w2 (S1.below b2))
  have HS2 := hide (S1.below b2)
  have HX2 := hide B2
  have HP := hide hpp
  have HC := hide (tokCheck_any 5 p)
  have HC0 := hide (tokCheck_any 64 pv0)
  have hz0 : ¬ PC pv0 = #[] := by simp [PC]
  clear S1 b1 b2 s2 B2 hp hpp
  go_enter Try.func23, Try.ntmps23
  go_wp2_with fail
  clear hg1 hw1 hg2 hr2 hbp
  refine HT.out.mono ?_
  rintro e w3 (⟨hno, -, -⟩ | ⟨-, rfl, b3⟩)
  · exact absurd (by rw [HP.out]; exact ok_P37) hno
  have l3 := run_ldTo (HX2.out.below b3)
  have HB3 := hide (HB2.out.trans (b3.mono HB2.out.size))
  have HS3 := hide (HS2.out.below b3)
  rw [HP.out, text37]
  clear l2 b3 HT
  go_wp2_with fail
  refine (HC.out _ HS3.out).mono ?_
  rintro e w4 ⟨x, rfl, hx, b4⟩
  rcases hx with ⟨-, hno⟩ | ⟨rfl, -⟩
  · exact absurd (by rw [HP.out]; exact ok_P37) hno
  have HB4 := hide (HB3.out.trans (b4.mono HB3.out.size))
  clear b4 HC l3
  go_wp2_with fail
  refine (HC0.out _ (PSrc.zero _)).mono ?_
  rintro e w5 ⟨x, rfl, hx, b5⟩
  rcases hx with ⟨rfl, -⟩ | ⟨-, hy⟩
  · have HB5 := hide (HB4.out.trans (b5.mono HB4.out.size))
    clear b5 HC0
    go_wp2_with fail
    go_ret
    exact ⟨rfl, HB5.out⟩
  · exact absurd hy.1 (by decide)
end Go.Proofs.Ytnghfnhpjdafmaa
