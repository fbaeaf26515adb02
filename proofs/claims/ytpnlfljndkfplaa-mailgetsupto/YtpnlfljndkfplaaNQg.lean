/- The reference's Get. -/
import Derived.Test.YtpnlfljndkfplaaNQa
namespace Go.Proofs.Ytpnlfljndkfplaa
open Go.RowKit
attribute [local go_sem ↓] ldP_eq stP_eq ldM_eq stM_eq mkP_eq
attribute [local go_sem] to_MC MC_s0 MC_s1 MC_s2 MC_s3 MC_s4 MC_s5
variable {w w' w2 wr : World} {g g2 g4 g10 : Nat}

/-- the result's mail and the six numbers, in memory -/
structure GI (w wr : World) (g2 g4 : Nat) (f : Nat → Nat) : Prop where
  bel : Below w.heap.size w wr
  m2 : MBox wr g2 ⟨0, 0, 0, 0, 0, none, 0, 0⟩
  h4 : HBx wr g4 f
  pos : w.heap.size ≤ g2 ∧ g2 < g4
theorem GI.below {f : Nat → Nat} (h : GI w wr g2 g4 f) (b : Below wr.heap.size wr w2) : GI w w2 g2 g4 f := ⟨h.bel.trans (b.mono h.bel.size), h.m2.below b, (b.block _ h.h4.lt).trans h.h4, h.pos⟩
theorem GI.set {f : Nat → Nat} (h : GI w wr g2 g4 f) (k v : Nat) (hk : k < 6) : GI w (wr.setCell ⟨g4, k, none⟩ (.int .i64 (v : Int))) g2 g4 (up6 f k v) := by
  obtain ⟨p1, p2⟩ := h.pos
  exact ⟨⟨(setCell_os _ _ _).trans h.bel.os, (setCell_tape _ _ _).trans h.bel.tape, (setCell_output _ _ _).trans h.bel.output, by rw [set_size]; exact h.bel.size, fun j hj => (set_other wr g4 k j _ (by omega)).trans (h.bel.block j hj)⟩, (set_other wr g4 k g2 _ (by omega)).trans h.m2, h.h4.set k v hk, h.pos⟩
/-- what the reference's Get answers -/
def RgA (w w' : World) (Z : List Int) (r : Ending) : Prop := Below w.heap.size w w' ∧
  ((∃ p a X Y, qMail Z = some (p, []) ∧ ckP p = 0 ∧ r = .returned (.tuple #[MV a, .int .i64 0]) ∧ MlIs w.heap.size w' p a X Y) ∨
    ((∀ p, qMail Z = some (p, []) → ckP p ≠ 0) ∧ r = .returned (.tuple #[MV ⟨0, 0, 0, 0, 0, none, 0, 0⟩, .int .i64 8])))
theorem GI.fail {f : Nat → Nat} {Z : List Int} (h : GI w wr g2 g4 f) (hq : ∀ p, qMail Z = some (p, []) → ckP p ≠ 0) : RgA w (wr.setRow g2 (MC ⟨0, 0, 0, 0, 0, none, 0, 0⟩)) Z (.returned (.tuple #[MV ⟨0, 0, 0, 0, 0, none, 0, 0⟩, .int .i64 8])) := ⟨below_setRow h.bel h.pos.1, Or.inr ⟨hq, rfl⟩⟩
/-- the mail that is built, with its parts -/
structure GP (w wr : World) (g2 g4 g10 : Nat) (f : Nat → Nat) (i : Nat) (po : Option Addr) (pc : Nat) (Q : List Pt) (Y : List (List Int)) : Prop where
  gi : GI w wr g2 g4 f
  mb : MBox wr g10 ⟨f 0, f 1, f 2, f 3, f 4, po, i, pc⟩
  pr : PR wr po i pc Q
  ps : ∀ j, j < i → Src wr (Q.getD j pt0).vo (Q.getD j pt0).vn (Q.getD j pt0).vc (Y.getD j []) ∧ (∀ b, blk (Q.getD j pt0).vo = some b → g10 < b ∧ b < wr.heap.size ∧ blk po ≠ some b) ∧ 0 ≤ (Q.getD j pt0).cart
  pb : ∀ b, blk po = some b → g10 < b
  pos : g4 < g10
  len : Y.length = i
variable {f : Nat → Nat} {i : Nat} {po : Option Addr} {pc : Nat} {Q : List Pt} {Y : List (List Int)}
theorem GP.below (h : GP w wr g2 g4 g10 f i po pc Q Y) (b : Below wr.heap.size wr w2) : GP w w2 g2 g4 g10 f i po pc Q Y :=
  ⟨h.gi.below b, h.mb.below b, h.pr.keep (fun k e => b.block k (h.pr.lt k e)), fun j hj => ⟨(h.ps j hj).1.below b, fun x e => ⟨((h.ps j hj).2.1 x e).1, Nat.lt_of_lt_of_le ((h.ps j hj).2.1 x e).2.1 b.size, ((h.ps j hj).2.1 x e).2.2⟩, (h.ps j hj).2.2⟩, h.pb, h.pos, h.len⟩
theorem getD_snoc (Q : List Pt) (p : Pt) (j : Nat) : (Q ++ [p]).getD j pt0 = if j < Q.length then Q.getD j pt0 else if j = Q.length then p else pt0 := by
  rw [List.getD_eq_getElem?_getD, List.getD_eq_getElem?_getD]
  by_cases h : j < Q.length
  · rw [if_pos h, List.getElem?_append_left h]
  · rw [if_neg h, List.getElem?_append_right (by omega)]
    by_cases e : j = Q.length
    · rw [if_pos e, e, Nat.sub_self]; rfl
    · rw [if_neg e, List.getElem?_eq_none (by simp; omega)]; rfl
theorem GP.next {wa wb : World} {oa bo : Option Addr} {vn ca c2 ct : Nat} {y : List Int} (h : GP w wr g2 g4 g10 f i po pc Q Y) (B : BR wa oa vn ca y) (hO : Oc y) (N : NewB wr wa oa) (P : PR wb bo (i + 1) c2 (Q ++ [⟨(ct : Int), oa, vn, ca⟩])) (A : Ap wa wb po bo) :
    MBox wb g10 ⟨f 0, f 1, f 2, f 3, f 4, po, i, pc⟩ ∧ GP w (wb.setCell ⟨g10, 5, none⟩ (.slice bo (i + 1) c2)) g2 g4 g10 f (i + 1) bo c2 (Q ++ [⟨(ct : Int), oa, vn, ca⟩]) (Y ++ [y]) := by
  have hp := h.gi.pos
  have hps := h.pos
  have hN := N.1.size
  have hA := A.grown.size
  have h10 := h.mb.lt
  have hQ := h.pr.len
  have hY := h.len
  have keep : ∀ k, k < wr.heap.size → blk po ≠ some k → wb.heap[k]? = wr.heap[k]? := fun k hk hn => (A.grown.block k (by omega) (fun e => hn e.symm)).trans (N.1.block k hk)
  have low : ∀ k, k ≤ g10 → wb.heap[k]? = wr.heap[k]? := fun k hk => keep k (by omega) (fun e => by have := h.pb k e; omega)
  have hbo : ∀ k, k < wa.heap.size → blk po ≠ some k → blk bo ≠ some k := fun k hk hn e => by
    rcases A.lies with e1 | ⟨j, e1, hj⟩
    · rw [e1] at e; exact hn e
    · rw [e1] at e
      have : j = k := Option.some.inj e
      omega
  have hbg : ∀ b, blk bo = some b → g10 < b := fun b e => by
    rcases A.lies with e1 | ⟨j, e1, hj⟩
    · rw [e1] at e; exact h.pb b e
    · rw [e1] at e
      have : j = b := Option.some.inj e
      omega
  have M1 : MBox wb g10 ⟨f 0, f 1, f 2, f 3, f 4, po, i, pc⟩ := (low g10 (Nat.le_refl _)).trans h.mb
  refine ⟨M1, ⟨⟨⟨?_, ?_, ?_, ?_, ?_⟩, ?_, ?_, h.gi.pos⟩, ?_, ?_, ?_, hbg, hps, by simp [hY]⟩⟩
  · exact (setCell_os _ _ _).trans (A.grown.os.trans (N.1.os.trans h.gi.bel.os))
  · exact (setCell_tape _ _ _).trans (A.grown.tape.trans (N.1.tape.trans h.gi.bel.tape))
  · exact (setCell_output _ _ _).trans (A.grown.output.trans (N.1.output.trans h.gi.bel.output))
  · rw [set_size]; have := h.gi.bel.size; omega
  · intro k hk
    exact (set_other wb g10 5 k _ (by omega)).trans ((low k (by omega)).trans (h.gi.bel.block k hk))
  · exact (set_other wb g10 5 g2 _ (by omega)).trans ((low g2 (by omega)).trans h.gi.m2)
  · exact (set_other wb g10 5 g4 _ (by omega)).trans ((low g4 (by omega)).trans h.gi.h4)
  · have := set_heap wb g10 _ _ _ 5 (.slice bo (i + 1) c2) M1
    unfold MBox
    rw [this]
    rfl
  · exact P.keep (fun k e => set_other wb g10 5 k _ (by have := hbg k e; omega))
  · intro j hj
    rw [getD_snoc]
    by_cases hj2 : j < i
    · rw [if_pos (by omega), Y_lt Y y j (by omega)]
      have hp2 := h.ps j hj2
      refine ⟨hp2.1.keep0 (fun _ x e => (set_other wb g10 5 x _ (by have := (hp2.2.1 x e).1; omega)).trans (keep x (hp2.2.1 x e).2.1 (hp2.2.1 x e).2.2)), fun x e => ?_, hp2.2.2⟩
      rw [set_size]
      have h3 := hp2.2.1 x e
      exact ⟨h3.1, by omega, hbo x (by omega) h3.2.2⟩
    · obtain rfl : j = i := by omega
      rw [if_neg (by omega), if_pos hQ.symm]
      have e2 : (Y ++ [y]).getD j [] = y := by rw [← hY]; exact Y_at Y y
      rw [e2]
      have hx : ∀ x, blk oa = some x → wr.heap.size ≤ x ∧ x < wa.heap.size ∧ blk po ≠ some x := fun x e => ⟨N.2 x e, B.lt x e, fun e3 => by have := N.2 x e; have := h.pr.lt x e3; omega⟩
      refine ⟨(B.srcO hO).keep0 (fun _ x e => (set_other wb g10 5 x _ (by have := hx x e; omega)).trans (A.grown.block x (hx x e).2.1 (fun e3 => (hx x e).2.2 e3.symm))), fun x e => ?_, Int.natCast_nonneg _⟩
      have h3 := hx x e
      rw [set_size]
      exact ⟨by omega, by omega, hbo x h3.2.1 h3.2.2⟩
theorem br1 {n a2 v : Nat} (h : ¬ n < a2 + v) : (v : Int) ≤ (n : Int) - a2 := by omega
theorem br2 {n a2 v : Nat} (h : ¬ n < a2 + v) (hn : n ≤ 1048576) : wrap64 ((a2 : Int) + v) = ((a2 + v : Nat) : Int) := by rw [w64 (by omega) (by omega)]; rfl
theorem br3 {a2 v : Nat} : (a2 : Int) ≤ ((a2 + v : Nat) : Int) := by omega
theorem br4 {n a2 v cp : Nat} (h : ¬ n < a2 + v) (hc : n ≤ cp) : ((a2 + v : Nat) : Int) ≤ (cp : Int) := by omega
theorem br5 {n a2 v : Nat} (h : ¬ n < a2 + v) : a2 + v ≤ n := by omega
theorem br6 {n a2 v : Nat} (h : ¬ n < a2 + v) : v ≤ n - a2 := by omega
theorem br7 {n a2 v cp : Nat} (h : ¬ n < a2 + v) (hc : cp = a2) (hn : n ≤ cp) : v = 0 := by omega
theorem br8 {n a1 a2 : Nat} (e : n = 0) (h : a2 ≤ n ∧ a1 < a2) : False := by omega
theorem br9 {n a2 v : Nat} (h : a2 + v ≤ n) (hn : n ≤ 1048576) : 0 + v ≤ 140737488355328 := by omega
theorem br10 {n i a1 : Nat} (h : a1 ≤ n ∧ i ≤ a1) (hn : n ≤ 1048576) : i + 1 ≤ 4000000000000 := by omega
theorem br11 {i a1 a2 a3 v : Nat} (h : i ≤ a1) (h1 : a1 < a2) (h2 : a2 < a3) : i + 1 ≤ a3 + v := by omega
theorem br12 {a1 a2 a3 v : Nat} (h1 : a1 < a2) (h2 : a2 < a3) : a1 < a3 + v := by omega
theorem bs1 {n a2 v : Nat} (h : ¬ n < a2 + v) : ¬ ((n : Int) - a2 < (v : Int)) := by omega
theorem bs2 {n a2 v a3 : Nat} (h : ¬ n < a2 + v) (hn : n ≤ 1048576) (e : a2 + v = a3) : wrap64 ((a2 : Int) + v) = (a3 : Int) := by rw [w64 (by omega) (by omega)]; omega
theorem bs3 {n a2 v a3 : Nat} (h : ¬ n < a2 + v) (e : a2 + v = a3) : a3 ≤ n := by omega
theorem bs4 {n a2 v a3 : Nat} (h : a3 ≤ n ∧ a2 + v = a3) (hn : n ≤ 1048576) : 0 + v ≤ 140737488355328 := by omega
theorem bs5 {i a' a1 a2 a3 v : Nat} (h : i ≤ a') (h1 : a' < a1) (h2 : a1 < a2) (e : a2 + v = a3) : i + 1 ≤ a3 := by omega
theorem bs6 {a' a1 a2 a3 v : Nat} (h1 : a' < a1) (h2 : a1 < a2) (e : a2 + v = a3) : a' < a3 := by omega
theorem bs7 {a2 a3 v : Nat} (e : a2 + v = a3) : a2 ≤ a3 := by omega
theorem bs8 {a2 a3 v : Nat} (e : a2 + v = a3) : a3 - a2 = v := by omega
theorem GP.is (h : GP w wr g2 g4 g10 f i po pc Q Y) (hi : i ≤ 1048576) : MlIs (g10 + 1) wr ⟨f 0, f 1, f 2, f 3, f 4, ptsOf Q Y i⟩ ⟨f 0, f 1, f 2, f 3, f 4, po, i, pc⟩ Q Y := by
  have hp := h.gi.pos
  have hq := h.pos
  exact ⟨⟨rfl, rfl, rfl, rfl, rfl, (ptsOf_len Q Y i).symm⟩, h.pr.src (by show i ≤ _; omega), fun k hk => (h.ps k hk).1, rfl, fun k hk => (h.ps k hk).2.2, fun b e => ⟨by have := h.pb b e; omega, h.pr.lt b e⟩, fun k hk b e => ⟨by have := ((h.ps k hk).2.1 b e).1; omega, ((h.ps k hk).2.1 b e).2.1⟩⟩
theorem MlIs.deeper {n0 n1 : Nat} {p : Pm} {a : Ml} {X : List Pt} {Y : List (List Int)} (h : MlIs n0 w p a X Y) (hn : n1 ≤ n0) : MlIs n1 w p a X Y :=
  ⟨h.nums, h.src, h.ps, h.pts, h.carts, fun b e => ⟨Nat.le_trans hn (h.new b e).1, (h.new b e).2⟩, fun k hk b e => ⟨Nat.le_trans hn (h.newB k hk b e).1, (h.newB k hk b e).2⟩⟩
theorem drop_not_nil {Z : List Int} {n a : Nat} (hl : Z.length = n) (ha : a ≤ n) (hne : a ≠ n) : Z.drop a ≠ [] := fun h => by
  have := congrArg List.length h
  rw [List.length_drop, hl] at this
  simp at this
  omega
theorem qT0_none {Z : List Int} (h : qParts (f 5) Z = none) : qT 0 f Z = none := by unfold qT; rw [h]
theorem qT0_some {Z R : List Int} {P : List Prt} (h : qParts (f 5) Z = some (P, R)) : qT 0 f Z = some (⟨f 0, f 1, f 2, f 3, f 4, P⟩, R) := by unfold qT; rw [h]
theorem ptsOf_snoc {i : Nat} {Q : List Pt} {Y : List (List Int)} (p : Pt) (y : List Int) (hQ : Q.length = i) (hY : Y.length = i) : ptsOf (Q ++ [p]) (Y ++ [y]) (i + 1) = ptsOf Q Y i ++ [(p.cart.toNat, y)] := by
  rw [ptsOf_succ]
  have e1 : (Q ++ [p]).getD i pt0 = p := by rw [getD_snoc, if_neg (by omega), if_pos hQ.symm]
  have e2 : (Y ++ [y]).getD i [] = y := by rw [← hY]; exact Y_at Y y
  rw [e1, e2, ptsOf_same (Q ++ [p]) Q (Y ++ [y]) Y i (fun j hj => ⟨by rw [getD_snoc, if_pos (by omega)], Y_lt Y y j (by omega)⟩)]
set_option maxRecDepth 100000 in
set_option maxHeartbeats 8000000 in
theorem rget_any (ao : Option Addr) (n cp : Nat) (Z : List Int) (w : World) (S : Src w ao n cp Z) (hcap : n ≤ cp) (hn : n ≤ 1048576) : Calls Try.prog 14 #[.slice ao n cp] w fun r w' => RgA w w' Z r := by
  obtain ⟨w0, hw0⟩ : ∃ w0, w.alloc (.cells (MC ⟨0, 0, 0, 0, 0, none, 0, 0⟩) 24) = w0 := ⟨_, rfl⟩
  obtain ⟨g2, hg2⟩ : ∃ g2, w.heap.size = g2 := ⟨_, rfl⟩
  obtain ⟨w1, hw1⟩ : ∃ w1, w0.alloc (.cells #[.int .i64 0, .int .i64 0, .int .i64 0, .int .i64 0, .int .i64 0, .int .i64 0] 51) = w1 := ⟨_, rfl⟩
  obtain ⟨g4, hg4⟩ : ∃ g4, w0.heap.size = g4 := ⟨_, rfl⟩
  have X2 := bx_new w ⟨0, 0, 0, 0, 0, none, 0, 0⟩ hw0 hg2
  have hb1 := below_new w0 (.cells #[.int .i64 0, .int .i64 0, .int .i64 0, .int .i64 0, .int .i64 0, .int .i64 0] 51)
  have h4 : HBx (w0.alloc (.cells #[.int .i64 0, .int .i64 0, .int .i64 0, .int .i64 0, .int .i64 0, .int .i64 0] 51)) w0.heap.size (fun _ => 0) := heap_alloc_new w0 _
  rw [hw1] at hb1 h4
  rw [hg4] at h4
  have HG0 : Hid (GI w w1 g2 g4 (fun _ => 0) ∧ qMail Z = qT 6 (fun _ => 0) (Z.drop 0)) := ⟨⟨X2.bel.trans (hb1.mono X2.bel.size), X2.box.below hb1, h4, by omega, by have := X2.box.lt; omega⟩, qMail_T Z⟩
  have HS := hide S
  have HO : Hid (Oc Z) := S.2.2.2
  have HN : Hid (n ≤ cp ∧ n ≤ 1048576 ∧ Z.length = n) := ⟨hcap, hn, S.1⟩
  clear X2 hb1 h4 S hcap hn
  go_enter Try.func14, Try.ntmps14
  go_wp2_with fail
  go_loopw [5, 6] (fun at' i wr => ∃ (k a : Nat) (f : Nat → Nat), k ≤ 6 ∧ at' = .int .i64 a ∧ i = .int .i64 k ∧ Hid (a ≤ n ∧ GI w wr g2 g4 f ∧ qMail Z = qT (6 - k) f (Z.drop a))) (fun _ i _ => 6 - (intOf i).toNat)
  case atStart => exact ⟨0, 0, fun _ => 0, by decide, rfl, rfl, Nat.zero_le _, HG0.out⟩
  case round =>
    clear HG0
    obtain ⟨k, a, f, hk, rfl, rfl, HI⟩ := hrel
    by_cases h6 : k < 6
    · have HLT := hide h6
      have HK1 : Hid (wrap64 ((k : Int) + 1) = ((k + 1 : Nat) : Int)) := by show _ = _; rw [w64 (by omega) (by omega)]; rfl
      obtain ⟨j, hj⟩ : ∃ j, 6 - k = j + 1 := ⟨5 - k, by omega⟩
      have HJ : Hid (6 - k = j + 1 ∧ 5 - j = k ∧ 6 - (k + 1) = j) := ⟨hj, by omega, by omega⟩
      clear hj
      by_cases hb : nmE (Z.drop a) 9223372036854775807 ≠ 0
      · have HC := hide (rn_bad ao n cp Z a wr (HS.out.below HI.out.2.1.bel) HI.out.1 (by have := HN.out; omega) hb)
        have hq : qMail Z = none := by rw [HI.out.2.2, HJ.out.1, qT_bad hb]
        have hs := run_stM (m' := ⟨0, 0, 0, 0, 0, none, 0, 0⟩) HI.out.2.1.m2
        have HE := hide (HI.out.2.1.fail (Z := Z) (fun p hp => by rw [hq] at hp; cases hp))
        have HX := hide (MBox.setRow (m' := ⟨0, 0, 0, 0, 0, none, 0, 0⟩) HI.out.2.1.m2)
        clear hb hq
        go_wp2_with fail
        refine HC.out.mono ?_
        rintro r wx ⟨x, y, z, hz, rfl, rfl⟩
        have hzn : (z != 0) = true := by simpa using hz
        clear hz
        go_wp2_with fail
        refine bodyPost_ret (resM rfl rfl rfl HX.out) rfl ?_
        exact HE.out
      · have hok : nmE (Z.drop a) 9223372036854775807 = 0 := by simpa using hb
        have HC := hide (rn_ok ao n cp Z a wr (HS.out.below HI.out.2.1.bel) HI.out.1 (by have := HN.out; omega) hok)
        have hkl := (nm_ok hok).2.2.1
        rw [List.length_drop] at hkl
        have hq : qMail Z = qT (6 - (k + 1)) (up6 f k (nmV (Z.drop a))) (Z.drop (a + nmK (Z.drop a))) := by rw [HI.out.2.2, HJ.out.1, qT_ok hok, HJ.out.2.1, HJ.out.2.2, List.drop_drop]
        have y := HI.out.2.1.h4.c k h6
        have z := HI.out.2.1.h4.z k
        obtain ⟨v, hv⟩ : ∃ v, nmV (Z.drop a) = v := ⟨_, rfl⟩
        obtain ⟨a2, ha2⟩ : ∃ a2, a + nmK (Z.drop a) = a2 := ⟨_, rfl⟩
        rw [hv, ha2] at HC hq
        have HI2 : Hid (a2 ≤ n ∧ GI w (wr.setCell ⟨g4, k, none⟩ (.int .i64 (v : Int))) g2 g4 (up6 f k v) ∧ qMail Z = qT (6 - (k + 1)) (up6 f k v) (Z.drop a2)) := ⟨by have := HN.out.2.2; have := HI.out.1; omega, HI.out.2.1.set k v h6, hq⟩
        clear hb hok hkl hq hv ha2
        go_wp2_with fail
        refine HC.out.mono ?_
        rintro r wx ⟨rfl, rfl⟩
        go_wp2_with fail
        go_roundw
        case rel => exact ⟨k + 1, a2, _, HLT.out, rfl, by first | rw [HK1.out] | simp, HI2⟩
        case measure => (try rw [HK1.out]); have := HLT.out; simp [intOf]; omega
    · have hnl : ¬ (k : Int) < 6 := by omega
      have hq0 : qMail Z = qT 0 f (Z.drop a) := by rw [HI.out.2.2, show 6 - k = 0 by omega]
      have HQ0 := hide hq0
      have y0 := HI.out.2.1.h4.c 0 (by decide)
      have y1 := HI.out.2.1.h4.c 1 (by decide)
      have y2 := HI.out.2.1.h4.c 2 (by decide)
      have y3 := HI.out.2.1.h4.c 3 (by decide)
      have y4 := HI.out.2.1.h4.c 4 (by decide)
      obtain ⟨g10, hg10⟩ : ∃ g10, wr.heap.size = g10 := ⟨_, rfl⟩
      obtain ⟨w10, hst, M10, b10, -⟩ := madeM wr ⟨f 0, f 1, f 2, f 3, f 4, none, 0, 0⟩ g10 hg10
      have HGP : Hid (GP w w10 g2 g4 g10 f 0 none 0 [] []) := ⟨HI.out.2.1.below b10, M10, PR.nil _, fun j hj => absurd hj (Nat.not_lt_zero j), fun b e => (by cases e), by have := HI.out.2.1.h4.lt; omega, rfl⟩
      have HA0 : Hid (a ≤ n) := HI.out.1
      clear hq0 M10 b10 hk h6
      go_wp2_with fail
      go_loopw [5, 11] (fun at' iv wq => ∃ (i a' : Nat) (po : Option Addr) (pc : Nat) (Q : List Pt) (Y : List (List Int)), at' = .int .i64 a' ∧ iv = .int .i64 i ∧ Hid (a' ≤ n ∧ i ≤ a' ∧ i ≤ f 5 ∧ GP w wq g2 g4 g10 f i po pc Q Y ∧ qParts (f 5) (Z.drop a) = ahead (ptsOf Q Y i) (qParts (f 5 - i) (Z.drop a')))) (fun at' _ _ => n - (intOf at').toNat)
      case atStart => exact ⟨0, a, none, 0, [], [], rfl, rfl, HA0.out, Nat.zero_le _, Nat.zero_le _, HGP.out, by rw [Nat.sub_zero]; cases qParts (f 5) (Z.drop a) <;> rfl⟩
      case round =>
        clear HGP y0 y1 y2 y3 y4 hst
        obtain ⟨i, a', po, pc, Q, Y, rfl, rfl, HP⟩ := hrel
        have y5 := HP.out.2.2.2.1.gi.h4.c 5 (by decide)
        have hs := run_stM (m' := ⟨0, 0, 0, 0, 0, none, 0, 0⟩) HP.out.2.2.2.1.gi.m2
        have HX := hide (MBox.setRow (m' := ⟨0, 0, 0, 0, 0, none, 0, 0⟩) HP.out.2.2.2.1.gi.m2)
        have HFl : Hid ((∀ p, qMail Z = some (p, []) → ckP p ≠ 0) → RgA w (wr.setRow g2 (MC ⟨0, 0, 0, 0, 0, none, 0, 0⟩)) Z (.returned (.tuple #[MV ⟨0, 0, 0, 0, 0, none, 0, 0⟩, .int .i64 8]))) := fun hq => HP.out.2.2.2.1.gi.fail hq
        by_cases hlt : i < f 5
        · have HLT := hide hlt
          have hltI : (i : Int) < (f 5 : Int) := by omega
          have HK1 : Hid (wrap64 ((i : Int) + 1) = ((i + 1 : Nat) : Int)) := by show _ = _; have := HP.out; have := HN.out; rw [w64 (by omega) (by omega)]; rfl
          obtain ⟨j, hj⟩ : ∃ j, f 5 - i = j + 1 := ⟨f 5 - i - 1, by omega⟩
          have HJ : Hid (f 5 - i = j + 1 ∧ f 5 - (i + 1) = j) := ⟨hj, by omega⟩
          clear hj
          have HNo : Hid (qParts (j + 1) (Z.drop a') = none → qMail Z = none) := fun h => by
            rw [HQ0.out]
            exact qT0_none (by rw [HP.out.2.2.2.2, HJ.out.1, h]; rfl)
          have hSw := HS.out.below HP.out.2.2.2.1.gi.bel
          by_cases hb : nmE (Z.drop a') 9223372036854775807 ≠ 0
          · have HC := hide (rn_bad ao n cp Z a' wr hSw HP.out.1 (by have := HN.out; omega) hb)
            have HE := hide (HFl.out (fun p hp => by rw [HNo.out (qParts_bad1 hb)] at hp; cases hp))
            clear hb hSw hlt
            go_wp2_with fail
            refine HC.out.mono ?_
            rintro r wx ⟨x, y, z, hz, rfl, rfl⟩
            have hzn : (z != 0) = true := by simpa using hz
            clear hz
            go_wp2_with fail
            refine bodyPost_ret (resM rfl rfl rfl HX.out) rfl ?_
            exact HE.out
          · have hok : nmE (Z.drop a') 9223372036854775807 = 0 := by simpa using hb
            have HC := hide (rn_ok ao n cp Z a' wr hSw HP.out.1 (by have := HN.out; omega) hok)
            obtain ⟨ct, hct⟩ : ∃ ct, nmV (Z.drop a') = ct := ⟨_, rfl⟩
            obtain ⟨a1, ha1⟩ : ∃ a1, a' + nmK (Z.drop a') = a1 := ⟨_, rfl⟩
            have hkl := (nm_ok hok).2.2
            rw [List.length_drop, HN.out.2.2] at hkl
            have hdr : (Z.drop a').drop (nmK (Z.drop a')) = Z.drop a1 := by rw [List.drop_drop, ha1]
            rw [hct, ha1] at HC
            have HA1 : Hid (a1 ≤ n ∧ a' < a1) := ⟨by have := HP.out.1; omega, by omega⟩
            have HOk := hide hok
            clear hb hok
            by_cases hb2 : nmE (Z.drop a1) 9223372036854775807 ≠ 0
            · have HC2 := hide (rn_bad ao n cp Z a1 wr hSw HA1.out.1 (by have := HN.out; omega) hb2)
              have HE := hide (HFl.out (fun p hp => by rw [HNo.out (qParts_bad2 HOk.out (by rw [hdr]; exact fun h => hb2 ((pcE_zero _).1 h).1))] at hp; cases hp))
              clear hb2 hSw hlt hct ha1 hkl hdr
              go_wp2_with fail
              refine HC.out.mono ?_
              rintro r wx ⟨rfl, rfl⟩
              go_wp2_with fail
              refine HC2.out.mono ?_
              rintro r wx ⟨x, y, z, hz, rfl, rfl⟩
              have hzn : (z != 0) = true := by simpa using hz
              clear hz
              go_wp2_with fail
              refine bodyPost_ret (resM rfl rfl rfl HX.out) rfl ?_
              exact HE.out
            · have hok2 : nmE (Z.drop a1) 9223372036854775807 = 0 := by simpa using hb2
              have HC2 := hide (rn_ok ao n cp Z a1 wr hSw HA1.out.1 (by have := HN.out; omega) hok2)
              obtain ⟨v, hv⟩ : ∃ v, nmV (Z.drop a1) = v := ⟨_, rfl⟩
              obtain ⟨a2, ha2⟩ : ∃ a2, a1 + nmK (Z.drop a1) = a2 := ⟨_, rfl⟩
              have hkl2 := (nm_ok hok2).2.2
              rw [List.length_drop, HN.out.2.2] at hkl2
              rw [hv, ha2] at HC2
              have HA2 : Hid (a2 ≤ n ∧ a1 < a2) := ⟨by have := HA1.out.1; omega, by omega⟩
              have HOk2 := hide hok2
              have hw1 : wrap64 ((n : Int) - a2) = (n : Int) - a2 := w64 (by have := HN.out; omega) (by have := HN.out; omega)
              clear hb2 hok2
              by_cases hbig : n < a2 + v
              · have hg : (n : Int) - a2 < (v : Int) := by omega
                have HE := hide (HFl.out (fun p hp => by
                  rw [HNo.out (qParts_bad2 HOk.out (by
                    rw [hdr]
                    intro h
                    have := ((pcE_zero _).1 h).2
                    rw [List.length_drop, HN.out.2.2] at this
                    omega))] at hp
                  cases hp))
                clear hSw hlt hct ha1 hkl hdr hv ha2 hkl2 hbig
                go_wp2_with fail
                refine HC.out.mono ?_
                rintro r wx ⟨rfl, rfl⟩
                go_wp2_with fail
                refine HC2.out.mono ?_
                rintro r wx ⟨rfl, rfl⟩
                go_wp2_with fail
                refine bodyPost_ret (resM rfl rfl rfl HX.out) rfl ?_
                exact HE.out
              · have hpc : pcE (Z.drop a1) (Z.drop a1).length = 0 := (pcE_zero _).2 ⟨HOk2.out, by rw [List.length_drop, HN.out.2.2]; omega⟩
                obtain ⟨a3, ha3⟩ : ∃ a3, a2 + v = a3 := ⟨_, rfl⟩
                obtain ⟨y, hy⟩ : ∃ y, (Z.drop a2).take v = y := ⟨_, rfl⟩
                have HQs : Hid (qParts (j + 1) (Z.drop a') = ahead [(ct, y)] (qParts j (Z.drop a3))) := by
                  show _ = _
                  rw [qParts_ok HOk.out hdr hpc, hct, hv, List.drop_drop, ha2, List.drop_drop, ← Nat.add_assoc, ha2, hy, ha3]
                clear hkl hkl2 hdr hpc hct hv ha1 ha2
                have hg : ¬ ((n : Int) - a2 < (v : Int)) := bs1 hbig
                have hw2 : wrap64 ((a2 : Int) + v) = (a3 : Int) := bs2 hbig HN.out.2.1 ha3
                have HA3 : Hid (a3 ≤ n ∧ a2 + v = a3) := ⟨bs3 hbig ha3, ha3⟩
                have hOY : Oc y := by rw [← hy]; exact (HO.out.drop _).take _
                have HB0 : Hid (Below wr.heap.size wr ((wr.alloc (.cells #[] 5)).drew)) := (below_new wr _).trans ((below_drew1 _).mono (below_new wr _).size)
                have HLit : Hid (BR ((wr.alloc (.cells #[] 5)).drew) (some ⟨wr.heap.size, 0, none⟩) 0 0 []) := (BR.lit wr).below (below_drew1 _)
                obtain ⟨ao', c', hcs, S', hc'⟩ := hSw.sub a2 HA2.out.1 HN.out.1
                have HSl : Hid ((ao = none ∧ ao' = none ∧ c' = cp - a2) ∨ (∃ ad, ao = some ad ∧ cp = a2 ∧ ao' = some ad ∧ c' = 0) ∨ ∃ ad, ao = some ad ∧ ¬ cp = a2 ∧ ao' = some (ad.add a2) ∧ c' = cp - a2) := hcs
                obtain ⟨ad, rfl⟩ : ∃ ad, ao = some ad := by
                  cases ao with
                  | none => exact (br8 (hSw.2.1 rfl).1 HA2.out).elim
                  | some ad => exact ⟨ad, rfl⟩
                obtain ⟨ad', rfl⟩ : ∃ ad', ao' = some ad' := by
                  rcases hcs with ⟨x, _⟩ | ⟨ad, x, _, y, z⟩ | ⟨ad, x, y, z, _⟩
                  · cases x
                  · exact ⟨_, y⟩
                  · exact ⟨_, z⟩
                have HSl2 : Hid ((if cp = a2 then some ad else some (ad.add a2)) = some ad' ∧ cp - a2 = c') := by
                  show _ ∧ _
                  rcases HSl.out with ⟨x, _⟩ | ⟨ad2, x, x2, x3, x4⟩ | ⟨ad2, x, x2, x3, x4⟩
                  · cases x
                  · cases x
                    rw [if_pos x2, x3, x4, x2]
                    exact ⟨rfl, Nat.sub_self _⟩
                  · cases x
                    rw [if_neg x2, x3, x4]
                    exact ⟨rfl, rfl⟩
                clear HSl
                have hST : Src wr (some ad') v c' y := by rw [← hy]; exact S'.take v (br6 hbig)
                have HSY := hide ((hST.below HB0.out).bs)
                obtain ⟨oa, ca, wa, hrunB, Ba, Aa⟩ := HLit.out.runs HSY.out (bs4 HA3.out HN.out.2.1) 26
                rw [Nat.zero_add, List.nil_append] at Ba
                rw [Nat.zero_add] at hrunB
                have Na : NewB wr wa oa := (Ap.fresh (w := wr.drew) Aa).pre (below_drew1 wr)
                have hPa : PR wa po i pc Q := HP.out.2.2.2.1.pr.keep (fun k e => Na.1.block k (HP.out.2.2.2.1.pr.lt k e))
                obtain ⟨bo, c2, wb, hrunP, Pb, Ab⟩ := hPa.runs (p := ⟨(ct : Int), oa, v, ca⟩) (br10 ⟨HP.out.1, HP.out.2.1⟩ HN.out.2.1) 22
                have HNx := hide (HP.out.2.2.2.1.next Ba hOY Na Pb Ab)
                have HR : Hid (a3 ≤ n ∧ i + 1 ≤ a3 ∧ i + 1 ≤ f 5 ∧ GP w (wb.setCell ⟨g10, 5, none⟩ (.slice bo (i + 1) c2)) g2 g4 g10 f (i + 1) bo c2 (Q ++ [⟨(ct : Int), oa, v, ca⟩]) (Y ++ [y]) ∧ qParts (f 5) (Z.drop a) = ahead (ptsOf (Q ++ [⟨(ct : Int), oa, v, ca⟩]) (Y ++ [y]) (i + 1)) (qParts (f 5 - (i + 1)) (Z.drop a3))) := by
                  refine ⟨HA3.out.1, bs5 HP.out.2.1 HA1.out.2 HA2.out.2 HA3.out.2, HLT.out, HNx.out.2, ?_⟩
                  rw [HP.out.2.2.2.2, HJ.out.1, HQs.out, ahead_ahead, HJ.out.2, ptsOf_snoc _ _ HP.out.2.2.2.1.pr.len HP.out.2.2.2.1.len]
                  rfl
                have x5 : wr.drew.cell? ⟨g10, 5, none⟩ = some (.slice po i pc) := HP.out.2.2.2.1.mb.c5
                have x5a : (wr.alloc (.cells #[] 5)).cell? ⟨g10, 5, none⟩ = some (.slice po i pc) := (HP.out.2.2.2.1.mb.below (below_new wr _)).c5
                have x5b : wa.cell? ⟨g10, 5, none⟩ = some (.slice po i pc) := (HP.out.2.2.2.1.mb.below Na.1).c5
                have x5c : (wa.alloc (.cells #[.int .i64 (ct : Int), .slice oa v ca] 46)).cell? ⟨g10, 5, none⟩ = some (.slice po i pc) := ((HP.out.2.2.2.1.mb.below Na.1).below (below_new wa _)).c5
                have x5d := HNx.out.1.c5
                simp only at x5d
                have z5d := HNx.out.1.z 5
                have HM0 : Hid (a' < a3) := bs6 HA1.out.2 HA2.out.2 HA3.out.2
                have hsl1 : a2 ≤ a3 := bs7 ha3
                have hsl2 : a3 ≤ cp := Nat.le_trans HA3.out.1 HN.out.1
                have hsl3 : a3 - a2 = v := bs8 ha3
                clear hSw hlt hbig hcs S' hc' hST hOY Ba Aa Na hPa Pb Ab ha3 hy
                go_wp2_with fail
                refine HC.out.mono ?_
                rintro r wx ⟨rfl, rfl⟩
                go_wp2_with fail
                refine HC2.out.mono ?_
                rintro r wx ⟨rfl, rfl⟩
                go_wp2_with fail
                refine wp_region_held_drew (S := fun _ => True) (by kernel_rfl) (trivial) (fun hHeld => ?_)
                refine wpAnyH_take (i := 0) (oi := { dst := some 84, op := Op.fieldAddr 24 (Operand.tmp 10) 5, type := 0, pos := "ref.go:143", after := #[], guard := none }) (v := ?_) rfl (by kernel_rfl) (by kernel_rfl) (by kernel_rfl) (fun _ _ _ h => h) (Or.inl ⟨by rfl, ?_⟩) (by assumption) ?_
                rotate_left
                · (intro w hSw; (try dsimp only at hSw); go_simp); first | done | with_reducible rfl
                simp only [Act.put, List.setIfInBounds_toArray, List.set_cons_zero, List.set_cons_succ]
                refine wpAnyH_take (i := 2) (oi := { dst := some 86, op := Op.move (Operand.tmp 12), type := 3, pos := "ref.go:143", after := #[], guard := none }) (v := ?_) rfl (by kernel_rfl) (by kernel_rfl) (by kernel_rfl) (fun _ _ _ h => h) (Or.inl ⟨by rfl, ?_⟩) (by assumption) ?_
                rotate_left
                · (intro w hSw; (try dsimp only at hSw); go_simp); first | done | with_reducible rfl
                simp only [Act.put, List.setIfInBounds_toArray, List.set_cons_zero, List.set_cons_succ]
                refine wpAnyH_take (i := 4) (oi := { dst := some 88, op := Op.move (Operand.tmp 0), type := 26, pos := "ref.go:143", after := #[], guard := none }) (v := ?_) rfl (by kernel_rfl) (by kernel_rfl) (by kernel_rfl) (fun _ _ _ h => h) (Or.inl ⟨by rfl, ?_⟩) (by assumption) ?_
                rotate_left
                · (intro w hSw; (try dsimp only at hSw); go_simp); first | done | with_reducible rfl
                simp only [Act.put, List.setIfInBounds_toArray, List.set_cons_zero, List.set_cons_succ]
                refine wpAnyH_take (i := 5) (oi := { dst := some 89, op := Op.move (Operand.tmp 16), type := 3, pos := "ref.go:143", after := #[], guard := none }) (v := ?_) rfl (by kernel_rfl) (by kernel_rfl) (by kernel_rfl) (fun _ _ _ h => h) (Or.inl ⟨by rfl, ?_⟩) (by assumption) ?_
                rotate_left
                · (intro w hSw; (try dsimp only at hSw); go_simp); first | done | with_reducible rfl
                simp only [Act.put, List.setIfInBounds_toArray, List.set_cons_zero, List.set_cons_succ]
                refine wpAnyH_take (i := 6) (oi := { dst := some 90, op := Op.move (Operand.tmp 5), type := 3, pos := "ref.go:143", after := #[], guard := none }) (v := ?_) rfl (by kernel_rfl) (by kernel_rfl) (by kernel_rfl) (fun _ _ _ h => h) (Or.inl ⟨by rfl, ?_⟩) (by assumption) ?_
                rotate_left
                · (intro w hSw; (try dsimp only at hSw); go_simp); first | done | with_reducible rfl
                simp only [Act.put, List.setIfInBounds_toArray, List.set_cons_zero, List.set_cons_succ]
                refine wpAnyH_take (i := 7) (oi := { dst := some 91, op := Op.slice 26 (Operand.tmp 88) (some (Operand.tmp 89)) (some (Operand.tmp 90)) none, type := 26, pos := "ref.go:143", after := #[{ on := 4, ground := Ground.data }, { on := 5, ground := Ground.data }, { on := 6, ground := Ground.data }], guard := none }) (v := .slice (some ad') v c') rfl (by kernel_rfl) (by kernel_rfl) (by kernel_rfl) (fun _ _ _ h => h) (Or.inl ⟨by rfl, ?_⟩) (by assumption) ?_
                skip
                · (intro w hSw; (try dsimp only at hSw); go_simp; exact HSl2.out); first | done | with_reducible rfl
                simp only [Act.put, List.setIfInBounds_toArray, List.set_cons_zero, List.set_cons_succ]
                refine wpAnyH_ready (rs := [1, 3]) (by kernel_rfl) (by simp) ?_
                refine AllReadyH.cons rfl (fun K hK => ?_) (AllReadyH.cons rfl (fun K hK => ?_) AllReadyH.nil)
                · go_simp
                  refine hK.out _ _ trivial (fun hHeld => ?_)
                  clear hK K
                  refine wpAnyH_ready (rs := [3]) (by kernel_rfl) (by simp) ?_
                  refine AllReadyH.cons rfl (fun K hK => ?_) ?_
                  rotate_left
                  · exact AllReadyH.nil
                  go_simp
                  refine hK.out _ _ trivial (fun hHeld => ?_)
                  clear hK K
                  refine wpAnyH_ready (rs := [8]) (by kernel_rfl) (by simp) ?_
                  refine AllReadyH.cons rfl (fun K hK => ?_) ?_
                  rotate_left
                  · exact AllReadyH.nil
                  refine step_app rfl (.tmp 87) (.tmp 91) rfl rfl rfl hrunB ?_
                  simp only [Act.put, List.setIfInBounds_toArray]
                  refine hK.out _ _ trivial (fun hHeld => ?_)
                  clear hK K
                  refine wpAnyH_take (i := 9) (oi := { dst := some 93, op := Op.build 46 #[(0, Operand.tmp 86), (1, Operand.tmp 92)], type := 46, pos := "ref.go:143", after := #[{ on := 2, ground := Ground.data }, { on := 8, ground := Ground.data }], guard := none }) (v := ?_) rfl (by kernel_rfl) (by kernel_rfl) (by kernel_rfl) (fun _ _ _ h => h) (Or.inl ⟨by rfl, ?_⟩) (by assumption) ?_
                  rotate_left
                  · (intro w hSw; (try dsimp only at hSw); go_simp); first | done | with_reducible rfl
                  simp only [Act.put]
                  refine wpAnyH_ready (rs := [10]) (by kernel_rfl) (by simp) ?_
                  refine AllReadyH.cons rfl (fun K hK => ?_) ?_
                  rotate_left
                  · exact AllReadyH.nil
                  go_simp
                  refine hK.out _ _ trivial (fun hHeld => ?_)
                  clear hK K
                  refine wpAnyH_ready (rs := [11]) (by kernel_rfl) (by simp) ?_
                  refine AllReadyH.cons rfl (fun K hK => ?_) ?_
                  rotate_left
                  · exact AllReadyH.nil
                  refine step_appP rfl (.tmp 85) (.tmp 94) rfl rfl rfl hrunP ?_
                  simp only [Act.put, List.setIfInBounds_toArray]
                  refine hK.out _ _ trivial (fun hHeld => ?_)
                  clear hK K
                  refine wpAnyH_take (i := 12) (oi := { dst := some 96, op := Op.fieldAddr 24 (Operand.tmp 10) 5, type := 0, pos := "ref.go:143", after := #[{ on := 0, ground := Ground.phase }, { on := 1, ground := Ground.phase }, { on := 2, ground := Ground.phase }, { on := 3, ground := Ground.phase }, { on := 4, ground := Ground.phase }, { on := 5, ground := Ground.phase }, { on := 6, ground := Ground.phase }, { on := 7, ground := Ground.phase }, { on := 8, ground := Ground.phase }, { on := 9, ground := Ground.phase }, { on := 10, ground := Ground.phase }, { on := 11, ground := Ground.phase }], guard := none }) (v := ?_) rfl (by kernel_rfl) (by kernel_rfl) (by kernel_rfl) (fun _ _ _ h => h) (Or.inl ⟨by rfl, ?_⟩) (by assumption) ?_
                  rotate_left
                  · (intro w hSw; (try dsimp only at hSw); go_simp); first | done | with_reducible rfl
                  simp only [Act.put]
                  refine wpAnyH_ready (rs := [13]) (by kernel_rfl) (by simp) ?_
                  refine AllReadyH.cons rfl (fun K hK => ?_) ?_
                  rotate_left
                  · exact AllReadyH.nil
                  go_simp
                  refine hK.out _ _ trivial (fun hHeld => ?_)
                  clear hK K
                  refine wpAnyH_done (by kernel_rfl) ?_ _
                  clear hHeld
                  go_wp2_with fail
                  go_roundw
                  case rel => exact ⟨i + 1, _, bo, c2, _, _, (by first | rfl | simp), (by first | rw [HK1.out] | simp), HR.out⟩
                  case measure => have := HM0.out; have := HA3.out.1; simp [intOf]; omega
                · go_simp
                  refine hK.out _ _ trivial (fun hHeld => ?_)
                  clear hK K
                  refine wpAnyH_ready (rs := [1, 8]) (by kernel_rfl) (by simp) ?_
                  refine AllReadyH.cons rfl (fun K hK => ?_) (AllReadyH.cons rfl (fun K hK => ?_) AllReadyH.nil)
                  · go_simp
                    refine hK.out _ _ trivial (fun hHeld => ?_)
                    clear hK K
                    refine wpAnyH_ready (rs := [8]) (by kernel_rfl) (by simp) ?_
                    refine AllReadyH.cons rfl (fun K hK => ?_) ?_
                    rotate_left
                    · exact AllReadyH.nil
                    refine step_app rfl (.tmp 87) (.tmp 91) rfl rfl rfl hrunB ?_
                    simp only [Act.put, List.setIfInBounds_toArray]
                    refine hK.out _ _ trivial (fun hHeld => ?_)
                    clear hK K
                    refine wpAnyH_take (i := 9) (oi := { dst := some 93, op := Op.build 46 #[(0, Operand.tmp 86), (1, Operand.tmp 92)], type := 46, pos := "ref.go:143", after := #[{ on := 2, ground := Ground.data }, { on := 8, ground := Ground.data }], guard := none }) (v := ?_) rfl (by kernel_rfl) (by kernel_rfl) (by kernel_rfl) (fun _ _ _ h => h) (Or.inl ⟨by rfl, ?_⟩) (by assumption) ?_
                    rotate_left
                    · (intro w hSw; (try dsimp only at hSw); go_simp); first | done | with_reducible rfl
                    simp only [Act.put]
                    refine wpAnyH_ready (rs := [10]) (by kernel_rfl) (by simp) ?_
                    refine AllReadyH.cons rfl (fun K hK => ?_) ?_
                    rotate_left
                    · exact AllReadyH.nil
                    go_simp
                    refine hK.out _ _ trivial (fun hHeld => ?_)
                    clear hK K
                    refine wpAnyH_ready (rs := [11]) (by kernel_rfl) (by simp) ?_
                    refine AllReadyH.cons rfl (fun K hK => ?_) ?_
                    rotate_left
                    · exact AllReadyH.nil
                    refine step_appP rfl (.tmp 85) (.tmp 94) rfl rfl rfl hrunP ?_
                    simp only [Act.put, List.setIfInBounds_toArray]
                    refine hK.out _ _ trivial (fun hHeld => ?_)
                    clear hK K
                    refine wpAnyH_take (i := 12) (oi := { dst := some 96, op := Op.fieldAddr 24 (Operand.tmp 10) 5, type := 0, pos := "ref.go:143", after := #[{ on := 0, ground := Ground.phase }, { on := 1, ground := Ground.phase }, { on := 2, ground := Ground.phase }, { on := 3, ground := Ground.phase }, { on := 4, ground := Ground.phase }, { on := 5, ground := Ground.phase }, { on := 6, ground := Ground.phase }, { on := 7, ground := Ground.phase }, { on := 8, ground := Ground.phase }, { on := 9, ground := Ground.phase }, { on := 10, ground := Ground.phase }, { on := 11, ground := Ground.phase }], guard := none }) (v := ?_) rfl (by kernel_rfl) (by kernel_rfl) (by kernel_rfl) (fun _ _ _ h => h) (Or.inl ⟨by rfl, ?_⟩) (by assumption) ?_
                    rotate_left
                    · (intro w hSw; (try dsimp only at hSw); go_simp); first | done | with_reducible rfl
                    simp only [Act.put]
                    refine wpAnyH_ready (rs := [13]) (by kernel_rfl) (by simp) ?_
                    refine AllReadyH.cons rfl (fun K hK => ?_) ?_
                    rotate_left
                    · exact AllReadyH.nil
                    go_simp
                    refine hK.out _ _ trivial (fun hHeld => ?_)
                    clear hK K
                    refine wpAnyH_done (by kernel_rfl) ?_ _
                    clear hHeld
                    go_wp2_with fail
                    go_roundw
                    case rel => exact ⟨i + 1, _, bo, c2, _, _, (by first | rfl | simp), (by first | rw [HK1.out] | simp), HR.out⟩
                    case measure => have := HM0.out; have := HA3.out.1; simp [intOf]; omega
                  · refine step_app rfl (.tmp 87) (.tmp 91) rfl rfl rfl hrunB ?_
                    simp only [Act.put, List.setIfInBounds_toArray]
                    refine hK.out _ _ trivial (fun hHeld => ?_)
                    clear hK K
                    refine wpAnyH_take (i := 9) (oi := { dst := some 93, op := Op.build 46 #[(0, Operand.tmp 86), (1, Operand.tmp 92)], type := 46, pos := "ref.go:143", after := #[{ on := 2, ground := Ground.data }, { on := 8, ground := Ground.data }], guard := none }) (v := ?_) rfl (by kernel_rfl) (by kernel_rfl) (by kernel_rfl) (fun _ _ _ h => h) (Or.inl ⟨by rfl, ?_⟩) (by assumption) ?_
                    rotate_left
                    · (intro w hSw; (try dsimp only at hSw); go_simp); first | done | with_reducible rfl
                    simp only [Act.put]
                    refine wpAnyH_ready (rs := [1, 10]) (by kernel_rfl) (by simp) ?_
                    refine AllReadyH.cons rfl (fun K hK => ?_) (AllReadyH.cons rfl (fun K hK => ?_) AllReadyH.nil)
                    · go_simp
                      refine hK.out _ _ trivial (fun hHeld => ?_)
                      clear hK K
                      refine wpAnyH_ready (rs := [10]) (by kernel_rfl) (by simp) ?_
                      refine AllReadyH.cons rfl (fun K hK => ?_) ?_
                      rotate_left
                      · exact AllReadyH.nil
                      go_simp
                      refine hK.out _ _ trivial (fun hHeld => ?_)
                      clear hK K
                      refine wpAnyH_ready (rs := [11]) (by kernel_rfl) (by simp) ?_
                      refine AllReadyH.cons rfl (fun K hK => ?_) ?_
                      rotate_left
                      · exact AllReadyH.nil
                      refine step_appP rfl (.tmp 85) (.tmp 94) rfl rfl rfl hrunP ?_
                      simp only [Act.put, List.setIfInBounds_toArray]
                      refine hK.out _ _ trivial (fun hHeld => ?_)
                      clear hK K
                      refine wpAnyH_take (i := 12) (oi := { dst := some 96, op := Op.fieldAddr 24 (Operand.tmp 10) 5, type := 0, pos := "ref.go:143", after := #[{ on := 0, ground := Ground.phase }, { on := 1, ground := Ground.phase }, { on := 2, ground := Ground.phase }, { on := 3, ground := Ground.phase }, { on := 4, ground := Ground.phase }, { on := 5, ground := Ground.phase }, { on := 6, ground := Ground.phase }, { on := 7, ground := Ground.phase }, { on := 8, ground := Ground.phase }, { on := 9, ground := Ground.phase }, { on := 10, ground := Ground.phase }, { on := 11, ground := Ground.phase }], guard := none }) (v := ?_) rfl (by kernel_rfl) (by kernel_rfl) (by kernel_rfl) (fun _ _ _ h => h) (Or.inl ⟨by rfl, ?_⟩) (by assumption) ?_
                      rotate_left
                      · (intro w hSw; (try dsimp only at hSw); go_simp); first | done | with_reducible rfl
                      simp only [Act.put]
                      refine wpAnyH_ready (rs := [13]) (by kernel_rfl) (by simp) ?_
                      refine AllReadyH.cons rfl (fun K hK => ?_) ?_
                      rotate_left
                      · exact AllReadyH.nil
                      go_simp
                      refine hK.out _ _ trivial (fun hHeld => ?_)
                      clear hK K
                      refine wpAnyH_done (by kernel_rfl) ?_ _
                      clear hHeld
                      go_wp2_with fail
                      go_roundw
                      case rel => exact ⟨i + 1, _, bo, c2, _, _, (by first | rfl | simp), (by first | rw [HK1.out] | simp), HR.out⟩
                      case measure => have := HM0.out; have := HA3.out.1; simp [intOf]; omega
                    · go_simp
                      refine hK.out _ _ trivial (fun hHeld => ?_)
                      clear hK K
                      refine wpAnyH_ready (rs := [1]) (by kernel_rfl) (by simp) ?_
                      refine AllReadyH.cons rfl (fun K hK => ?_) ?_
                      rotate_left
                      · exact AllReadyH.nil
                      go_simp
                      refine hK.out _ _ trivial (fun hHeld => ?_)
                      clear hK K
                      refine wpAnyH_ready (rs := [11]) (by kernel_rfl) (by simp) ?_
                      refine AllReadyH.cons rfl (fun K hK => ?_) ?_
                      rotate_left
                      · exact AllReadyH.nil
                      refine step_appP rfl (.tmp 85) (.tmp 94) rfl rfl rfl hrunP ?_
                      simp only [Act.put, List.setIfInBounds_toArray]
                      refine hK.out _ _ trivial (fun hHeld => ?_)
                      clear hK K
                      refine wpAnyH_take (i := 12) (oi := { dst := some 96, op := Op.fieldAddr 24 (Operand.tmp 10) 5, type := 0, pos := "ref.go:143", after := #[{ on := 0, ground := Ground.phase }, { on := 1, ground := Ground.phase }, { on := 2, ground := Ground.phase }, { on := 3, ground := Ground.phase }, { on := 4, ground := Ground.phase }, { on := 5, ground := Ground.phase }, { on := 6, ground := Ground.phase }, { on := 7, ground := Ground.phase }, { on := 8, ground := Ground.phase }, { on := 9, ground := Ground.phase }, { on := 10, ground := Ground.phase }, { on := 11, ground := Ground.phase }], guard := none }) (v := ?_) rfl (by kernel_rfl) (by kernel_rfl) (by kernel_rfl) (fun _ _ _ h => h) (Or.inl ⟨by rfl, ?_⟩) (by assumption) ?_
                      rotate_left
                      · (intro w hSw; (try dsimp only at hSw); go_simp); first | done | with_reducible rfl
                      simp only [Act.put]
                      refine wpAnyH_ready (rs := [13]) (by kernel_rfl) (by simp) ?_
                      refine AllReadyH.cons rfl (fun K hK => ?_) ?_
                      rotate_left
                      · exact AllReadyH.nil
                      go_simp
                      refine hK.out _ _ trivial (fun hHeld => ?_)
                      clear hK K
                      refine wpAnyH_done (by kernel_rfl) ?_ _
                      clear hHeld
                      go_wp2_with fail
                      go_roundw
                      case rel => exact ⟨i + 1, _, bo, c2, _, _, (by first | rfl | simp), (by first | rw [HK1.out] | simp), HR.out⟩
                      case measure => have := HM0.out; have := HA3.out.1; simp [intOf]; omega
        · have hif : i = f 5 := by have := HP.out.2.2.1; omega
          have hge : ¬ (i : Int) < (f 5 : Int) := by omega
          have hqm : qMail Z = some (⟨f 0, f 1, f 2, f 3, f 4, ptsOf Q Y i⟩, Z.drop a') := by
            rw [HQ0.out]
            refine qT0_some ?_
            rw [HP.out.2.2.2.2, hif, Nat.sub_self]
            show ahead _ (some ([], Z.drop a')) = _
            unfold ahead
            simp
          have hMl := HP.out.2.2.2.1.is (by have := HP.out; have := HN.out; omega)
          have hck := hMl.ck
          have HQm := hide hqm
          have HMl := hide hMl
          have HPq : Hid (g2 < g10 ∧ w.heap.size ≤ g2) := ⟨by have := HP.out.2.2.2.1.gi.pos; have := HP.out.2.2.2.1.pos; omega, HP.out.2.2.2.1.gi.pos.1⟩
          clear hqm hMl hlt hif
          by_cases hend : a' = n
          · have hZn : Z.drop a' = [] := List.drop_eq_nil_of_le (by rw [HN.out.2.2, hend]; exact Nat.le_refl _)
            rw [hZn] at HQm
            have hrc := rcheck_any (f 0) (f 1) (f 2) (f 3) (f 4) po i pc Q wr HMl.out.src
            rw [hck] at hrc
            have HCk := hide hrc
            have hld := run_ldM HP.out.2.2.2.1.mb
            clear hrc hZn
            subst hend
            go_wp2_with fail
            refine HCk.out.mono ?_
            rintro r wx ⟨rfl, bx⟩
            have hM2 := HP.out.2.2.2.1.gi.m2.below bx
            have hM10 := HP.out.2.2.2.1.mb.below bx
            by_cases hc0 : ckP ⟨f 0, f 1, f 2, f 3, f 4, ptsOf Q Y i⟩ = 0
            · rw [hc0]
              have hld2 := run_ldM hM10
              have hs2 := run_stM (m' := ⟨f 0, f 1, f 2, f 3, f 4, po, i, pc⟩) hM2
              have HX2 := hide (MBox.setRow (m' := ⟨f 0, f 1, f 2, f 3, f 4, po, i, pc⟩) hM2)
              have HE : Hid (RgA w (wx.setRow g2 (MC ⟨f 0, f 1, f 2, f 3, f 4, po, i, pc⟩)) Z (.returned (.tuple #[MV ⟨f 0, f 1, f 2, f 3, f 4, po, i, pc⟩, .int .i64 0]))) :=
                ⟨below_setRow (HP.out.2.2.2.1.gi.bel.trans (bx.mono HP.out.2.2.2.1.gi.bel.size)) HPq.out.2, Or.inl ⟨_, _, Q, Y, HQm.out, hc0, rfl, ((HMl.out.below bx).keep (by simp [World.setRow]) (fun k h1 h2 => setRow_other _ _ _ _ (by have := HPq.out; omega))).deeper (by have := HPq.out; omega)⟩⟩
              clear hM2 hM10 bx hc0 hs hld hck
              go_wp2_with fail
              refine bodyPost_ret (resM rfl rfl rfl HX2.out) rfl ?_
              exact HE.out
            · have hcb : (ckP ⟨f 0, f 1, f 2, f 3, f 4, ptsOf Q Y i⟩ != 0) = true := by simpa using hc0
              have hs2 := run_stM (m' := ⟨0, 0, 0, 0, 0, none, 0, 0⟩) hM2
              have HX2 := hide (MBox.setRow (m' := ⟨0, 0, 0, 0, 0, none, 0, 0⟩) hM2)
              have HE := hide ((HP.out.2.2.2.1.gi.below bx).fail (Z := Z) (fun p hp => by rw [HQm.out] at hp; have hp2 : _ = p := congrArg Prod.fst (Option.some.inj hp); rw [← hp2]; exact hc0))
              generalize ckP ⟨f 0, f 1, f 2, f 3, f 4, ptsOf Q Y i⟩ = cv at hcb ⊢
              clear hM2 hM10 bx hc0 hs hld hck
              go_wp2_with fail
              refine bodyPost_ret (resM rfl rfl rfl HX2.out) rfl ?_
              exact HE.out
          · have hZn := drop_not_nil HN.out.2.2 HP.out.1 hend
            have hnb : ((a' : Int) != (n : Int)) = true := by simp; omega
            have HE := hide (HFl.out (fun p hp => by rw [HQm.out] at hp; exact absurd (congrArg Prod.snd (Option.some.inj hp)) hZn))
            clear hZn hck
            go_wp2_with fail
            refine bodyPost_ret (resM rfl rfl rfl HX.out) rfl ?_
            exact HE.out
end Go.Proofs.Ytpnlfljndkfplaa
