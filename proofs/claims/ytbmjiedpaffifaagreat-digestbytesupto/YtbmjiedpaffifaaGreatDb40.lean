/- ZGp -/
import Derived.Test.YtbmjiedpaffifaaGreatDb27
import Derived.Test.YtbmjiedpaffifaaGreatDb28
import Derived.Test.YtbmjiedpaffifaaGreatDb39
import Derived.Deep.CutBlock
import Derived.Deep.DeepCutAuto
namespace Go.Proofs.YtbmjiedpaffifaaGreat
open Go.RowKit
attribute [local go_sem ↓] ldP_eq stP_eq
attribute [local go_sem] cells_PV PC_size
variable {w w' w2 W W' W2 w0 : World} {g g1 g3 : Nat} {Z : List Int}

theorem nums_str {A B : List Int} (hA : U.Oc A) (hB : U.Oc B) (e : strOfNums A = strOfNums B) : A = B := by rw [← U.strB_nums A hA, ← U.strB_nums B hB, e]
theorem str_ne {A B : List Int} (hA : U.Oc A) (hB : U.Oc B) (h : ¬ A = B) : (!(strOfNums A).toList == (strOfNums B).toList) = true := by
  simp only [Bool.not_eq_true', beq_eq_false_iff_ne, ne_eq]
  intro e
  rw [ByteArray.toList_eq, ByteArray.toList_eq] at e
  exact h (nums_str hA hB (ByteArray.ext (Array.toList_inj.1 e)))
theorem pastB_oc {P : Pst} (_ : InForm P) : U.Oc (pastB P) := oc_of (ob_pastD P)
theorem I.BR.spot {ao : Option Addr} {n cap : Nat} {l : List Int} (h : I.BR w ao n cap l) (h0 : n ≠ 0) : ∃ q, ao = some ⟨q, 0, none⟩ ∧ n ≤ cap := by
  rcases h.2 with ⟨h1, h2⟩ | ⟨q, cap2, cur, hv, hq, hh, r⟩
  · exact absurd h2 h0
  · simp only [Value.slice.injEq, true_and] at hv
    obtain ⟨rfl, rfl⟩ := hv
    exact ⟨q, rfl, by omega⟩
/-- within GetPast: the result's box, p's box, the numbers, the runs -/
structure QP (w0 W : World) (g1 g3 : Nat) (lo : Option Addr) (ln lc : Nat) (l : List Int) (vo : Option Addr) (vn vc : Nat) (co : Option Addr) (cn cc : Nat) (C : List Sn) : Prop where
  b : Below w0.heap.size w0 W
  r1 : PBox W g1 pv0
  g1n : w0.heap.size ≤ g1
  box : W.heap[g3]? = some (.cells #[.slice vo vn vc, .slice co cn cc] 25 (0, 0))
  g3n : g1 < g3
  row : I.BR W lo ln lc l
  rn : ∀ k, U.blk lo = some k → w0.heap.size ≤ k ∧ k ≠ g1 ∧ k ≠ g3
  c : J.BR W co cn cc C
  cw : ∀ k, U.blk co = some k → w0.heap.size ≤ k ∧ k ≠ g1 ∧ k ≠ g3 ∧ U.blk lo ≠ some k
variable {lo vo co bo : Option Addr} {ln lc vn vc cn cc n2 c2 : Nat} {l : List Int} {C C2 : List Sn}
theorem QP.below (h : QP w0 W g1 g3 lo ln lc l vo vn vc co cn cc C) (b : Below W.heap.size W W') : QP w0 W' g1 g3 lo ln lc l vo vn vc co cn cc C :=
  ⟨h.b.trans (b.mono h.b.size), h.r1.below b, h.g1n, (b.block g3 (some_lt h.box)).trans h.box, h.g3n, h.row.keep fun k e => b.block k (h.row.lt k e), h.rn, h.c.keep fun k e => b.block k (h.c.lt k e), h.cw⟩
theorem QP.heldC (h : QP w0 W g1 g3 lo ln lc l vo vn vc co cn cc C) (A : U.Ap W W2 co bo) : W2.heap[g3]? = some (.cells #[.slice vo vn vc, .slice co cn cc] 25 (0, 0)) :=
  (A.grown.block g3 (some_lt h.box) (fun e => (h.cw g3 e.symm).2.2.1 rfl)).trans h.box
theorem QP.appC (h : QP w0 W g1 g3 lo ln lc l vo vn vc co cn cc C) (A : U.Ap W W2 co bo) (h2 : J.BR W2 bo n2 c2 C2) : QP w0 (W2.setCell ⟨g3, 1, none⟩ (.slice bo n2 c2)) g1 g3 lo ln lc l vo vn vc bo n2 c2 C2 := by
  have hg1 := h.g1n
  have hg3 := h.g3n
  have hsz := A.grown.size
  have hbsz := h.b.size
  have hb3 := some_lt h.box
  have hvo : ∀ k, k < W.heap.size → U.blk co ≠ some k → W2.heap[k]? = W.heap[k]? := fun k hk hn => A.grown.block k hk (fun e => hn e.symm)
  have nb3 : U.blk co ≠ some g3 := fun e => (h.cw g3 e).2.2.1 rfl
  have nb1 : U.blk co ≠ some g1 := fun e => (h.cw g1 e).2.1 rfl
  have nlow : ∀ k, k < w0.heap.size → U.blk co ≠ some k := fun k hk e => by have := (h.cw k e).1; omega
  have e1 : ∀ k, k < W.heap.size → k ≠ g3 → U.blk co ≠ some k → (W2.setCell ⟨g3, 1, none⟩ (.slice bo n2 c2)).heap[k]? = W.heap[k]? := fun k hk h3 hn => (U.set_other W2 g3 1 k _ h3).trans (hvo k hk hn)
  have hbo : ∀ k, U.blk bo = some k → U.blk co = some k ∨ W.heap.size ≤ k := fun k e => by
    rcases A.lies with x | ⟨j, x, hj⟩
    · exact .inl (x ▸ e)
    · rw [x] at e; exact .inr (by have := Option.some.inj e; omega)
  have bne : ∀ k, U.blk bo = some k → k ≠ g3 := fun k e e3 => by
    rcases hbo k e with x | x
    · exact nb3 (e3 ▸ x)
    · omega
  have hl1 := h.r1.lt
  refine ⟨⟨?_, ?_, ?_, ?_, fun k hk => ?_⟩, (e1 g1 hl1 (by omega) nb1).trans h.r1, h.g1n, U.set_heap W2 g3 _ _ _ 1 _ (h.heldC A), h.g3n, h.row.keep fun k e => e1 k (h.row.lt k e) (h.rn k e).2.2 (fun e2 => (h.cw k e2).2.2.2 e), h.rn, h2.keep fun k e => U.set_other W2 g3 1 k _ (bne k e), fun k e => ⟨?_, ?_, bne k e, fun e2 => ?_⟩⟩
  · rw [U.setCell_os]; exact A.grown.os.trans h.b.os
  · rw [U.setCell_tape]; exact A.grown.tape.trans h.b.tape
  · rw [U.setCell_output]; exact A.grown.output.trans h.b.output
  · rw [U.set_size]; exact Nat.le_trans h.b.size hsz
  · exact (e1 k (Nat.lt_of_lt_of_le hk h.b.size) (by omega) (nlow k hk)).trans (h.b.block k hk)
  · rcases hbo k e with x | x
    · exact (h.cw k x).1
    · omega
  · rcases hbo k e with x | x
    · exact (h.cw k x).2.1
    · omega
  · rcases hbo k e with x | x
    · exact (h.cw k x).2.2.2 e2
    · have := h.row.lt k e2; omega
/-- what GetPast answers -/
def GqP (w w' : World) (Z : List Int) (r : Ending) : Prop := Below w.heap.size w w' ∧
  ((∃ p, InForm p.P ∧ Z = pastB p.P ∧ r = .returned (.tuple #[PV p, .bool true]) ∧ PSrc w' p ∧ PNew w.heap.size p) ∨
    ((∀ P, InForm P → Z ≠ pastB P) ∧ r = .returned (.tuple #[PV pv0, .bool false])))
/-- the beginning of a row of numbers -/
theorem vsrc_mid {q n cap a m c : Nat} (h : I.BR w (some ⟨q, 0, none⟩) n cap l) (ha : a + m ≤ n) : V.Src w (some ⟨q, a, none⟩) m c ((l.drop a).take m) := by
  have hl := h.len
  refine ⟨by rw [List.length_take, List.length_drop]; omega, fun e => (by cases e), fun ad e t ht => ?_⟩
  obtain rfl := Option.some.inj e
  have hc := h.at.2 _ rfl (a + t) (by omega)
  rw [Addr.add_lit] at hc ⊢
  rw [Nat.zero_add] at hc
  rw [hc, List.getD_eq_getElem?_getD, List.getD_eq_getElem?_getD, List.getElem?_take, if_pos ht, List.getElem?_drop]
theorem vsrc_rest {q n cap a : Nat} {ro : Option Addr} (h : I.BR w (some ⟨q, 0, none⟩) n cap l) (ha : a ≤ n) (hr : ro = some ⟨q, a, none⟩ ∨ (ro = some ⟨q, 0, none⟩ ∧ n = a)) (c : Nat) : V.Src w ro (n - a) c (l.drop a) := by
  have hl := h.len
  refine ⟨by rw [List.length_drop]; omega, fun e => (by rcases hr with x | ⟨x, -⟩ <;> rw [x] at e <;> cases e), fun ad e t ht => ?_⟩
  rcases hr with x | ⟨x, y⟩
  · rw [x] at e
    obtain rfl := Option.some.inj e
    have hc := h.at.2 _ rfl (a + t) (by omega)
    rw [Addr.add_lit] at hc ⊢
    rw [Nat.zero_add] at hc
    rw [hc, List.getD_eq_getElem?_getD, List.getD_eq_getElem?_getD, List.getElem?_drop]
  · omega
theorem AnN.at {l : List Int} (h : AnN l) (k : Nat) : ∃ v : Nat, l.getD k 0 = (v : Int) ∧ v ≤ 9223372036854775807 := by
  by_cases hk : k < l.length
  · have := h _ (List.getElem_mem hk)
    refine ⟨(l.getD k 0).toNat, ?_, ?_⟩ <;> rw [List.getD_eq_getElem?_getD, List.getElem?_eq_getElem hk] <;> simp only [Option.getD_some] <;> omega
  · exact ⟨0, by rw [List.getD_eq_getElem?_getD, List.getElem?_eq_none (by omega)]; rfl, by omega⟩
theorem SmN.take {l : List Int} (h : SmN l) (k : Nat) : SmN (l.take k) := fun x hx => h x (List.mem_of_mem_take hx)
theorem SmN.drop {l : List Int} (h : SmN l) (k : Nat) : SmN (l.drop k) := fun x hx => h x (List.mem_of_mem_drop hx)
set_option maxRecDepth 100000 in
set_option maxHeartbeats 6400000 in
theorem rgetPast14_any (ao : Option Addr) (n cap : Nat) (Z : List Int) (w : World) (S : U.Src w ao n cap Z) (hz : n ≤ 3000000000) : Calls Tryz.prog 16 #[.slice ao n cap] w fun r w' => GqP w w' Z r := by
  have b1 := below_new w (.cells #[.slice none 0 0, .slice none 0 0] 25)
  have x1 : PBox (w.alloc (.cells #[.slice none 0 0, .slice none 0 0] 25)) w.heap.size pv0 := pbox_new w pv0
  obtain ⟨w1, hw1⟩ : ∃ w1, w.alloc (.cells #[.slice none 0 0, .slice none 0 0] 25) = w1 := ⟨_, rfl⟩
  obtain ⟨g1, hg1⟩ : ∃ g1, w.heap.size = g1 := ⟨_, rfl⟩
  rw [hw1] at b1 x1
  rw [hg1] at x1
  have HC := hide (numbers_any ao n cap Z w1 (S.below b1) hz)
  have HS := hide S
  have HO : Hid (U.Oc Z) := S.2.2.2
  have HZl : Hid (Z.length ≤ 3000000000) := by show _ ≤ _; rw [S.1]; exact hz
  have HM : Hid (PBox w1 g1 pv0 ∧ Below w.heap.size w w1 ∧ w.heap.size = g1) := ⟨x1, b1, hg1⟩
  have HBd : Hid (∀ V, Below w.heap.size w V → PBox V g1 pv0 → (∀ P, InForm P → Z ≠ pastB P) → (stP (.pointer (some ⟨g1, 0, none⟩)) (.agg #[.slice none 0 0, .slice none 0 0])).run Tryz.prog V = .ok () (V.setRow g1 (PC pv0)) ∧ PBox (V.setRow g1 (PC pv0)) g1 pv0 ∧ GqP w (V.setRow g1 (PC pv0)) Z (.returned (.tuple #[PV pv0, .bool false]))) := fun V hV hM hno =>
    ⟨run_stP (p' := pv0) hM, setRow_heap _ _ _ _ _ _ hM, below_setRow hV (by omega), .inr ⟨hno, rfl⟩⟩
  clear b1 x1 S
  go_enter Tryz.func16, Tryz.ntmps16
  go_wp2_with fail
  clear hw1 hg1
  refine HC.out.mono ?_
  rintro r w2 hA
  clear HC
  rcases hA with ⟨l, bo, lc, rfl, hR, hN, hAn, hZ⟩ | ⟨hno, rfl, b2⟩
  rotate_left
  · obtain ⟨t8, x8, HE⟩ := HBd.out w2 (HM.out.2.1.trans (b2.mono HM.out.2.1.size)) (HM.out.1.below b2) (fun P hP e => hno (psN P) (psN_sm hP (past_few e HZl.out)).an (by rw [psN_B]; exact e))
    have HX := hide x8
    have HE := hide HE
    clear hno b2
    go_wp2_with fail
    refine bodyPost_ret (res2P rfl rfl rfl HX.out) rfl ?_
    exact HE.out
  · have hB2 : Below w.heap.size w w2 := HM.out.2.1.trans (hN.1.mono HM.out.2.1.size)
    have hM2 : PBox w2 g1 pv0 := HM.out.1.below hN.1
    have HBad2 := hide (HBd.out w2 hB2 hM2)
    have HFit : Hid (∀ P, InForm P → Z = pastB P → Fits l P) := fun P hP e => fits_of hP HZl.out hAn hZ e
    have HAn := hide hAn
    have HLn : Hid (l.length ≤ 3000000000) := by
      show _ ≤ _
      have h1 := nums_len l
      have h2 := HZl.out
      rw [hZ] at h2
      omega
    have HR := hide hR
    obtain ⟨L, hL⟩ : ∃ L, l.length = L := ⟨_, rfl⟩
    rw [hL] at hR HR HLn ⊢
    have HL := hide hL
    have hLb := HLn.out
    clear hAn hZ hL
    by_cases h0 : L = 0
    · subst h0
      obtain ⟨t8, x8, HE⟩ := HBad2.out (fun P hP e => (HFit.out P hP e).n0 HL.out)
      have HX := hide x8
      have HE := hide HE
      clear hR hN hB2 hM2
      go_wp2_with fail
      refine bodyPost_ret (res2P rfl rfl rfl HX.out) rfl ?_
      exact HE.out
    · obtain ⟨q, rfl, hcap⟩ := I.BR.spot hR h0
      have HQ : Hid (w.heap.size ≤ q ∧ q ≠ g1) := by
        have h1 := hN.2 q rfl
        have h2 := HM.out.1.lt
        have h3 := HM.out.2.1.size
        exact ⟨by omega, by omega⟩
      obtain ⟨v, hv, hvb⟩ := HAn.out.at 0
      have c0 := hR.at.2 _ rfl 0 (by omega)
      rw [hv] at c0
      have c00 : w2.cell? ⟨q, 0, none⟩ = some (.int .i64 (v : Int)) := c0
      have HV := hide hv
      have h0i : ((L : Int) == 0) = false := by simpa using h0
      have hLp : 0 < L := by omega
      have HH0 := hide h0
      clear hv hR hN h0
      by_cases h16 : (16 : Int) < (v : Int)
      · obtain ⟨t8, x8, HE⟩ := HBad2.out (fun P hP e => by
          have h1 := (HFit.out P hP e).hd
          have h2 := (HFit.out P hP e).v16
          have h3 := HV.out
          omega)
        have HX := hide x8
        have HE := hide HE
        clear hB2 hM2
        go_wp2_with fail
        refine bodyPost_ret (res2P rfl rfl rfl HX.out) rfl ?_
        exact HE.out
      · by_cases hlen : (L : Int) < (v : Int) + 2
        · obtain ⟨t8, x8, HE⟩ := HBad2.out (fun P hP e => by
            have h1 := (HFit.out P hP e).hd
            have h2 := (HFit.out P hP e).len
            have h3 := HV.out
            have h4 := HL.out
            omega)
          have HX := hide x8
          have HE := hide HE
          clear hB2 hM2
          go_wp2_with fail
          refine bodyPost_ret (res2P rfl rfl rfl HX.out) rfl ?_
          exact HE.out
        · obtain ⟨g3, hg3⟩ : ∃ g3, w2.heap.size = g3 := ⟨_, rfl⟩
          obtain ⟨Vv, hV⟩ : ∃ Vv, (l.drop 1).take v = Vv := ⟨_, rfl⟩
          obtain ⟨w3, hst3, B3, b3, -⟩ := madeP w2 ⟨some ⟨q, 1, none⟩, v, lc - 1, none, 0, 0, ⟨Vv, []⟩⟩ g3 hg3
          have HVl : Hid ((l.drop 1).take v = Vv ∧ Vv.length = v) := ⟨hV, by rw [← hV, List.length_take, List.length_drop, HL.out]; omega⟩
          have HP3 : Hid (QP w w3 g1 g3 (some ⟨q, 0, none⟩) L lc l (some ⟨q, 1, none⟩) v (lc - 1) none 0 0 []) := by
            have h1 := HQ.out
            have h2 := hM2.lt
            have h3 := HM.out.2.2
            have h4 := HR.out.lt q rfl
            exact ⟨hB2.trans (b3.mono hB2.size), hM2.below b3, by omega, B3, by omega, HR.out.keep fun k e => b3.block k (HR.out.lt k e), fun k e => by have : q = k := Option.some.inj e; omega, J.BR.nil _, fun k e => by cases e⟩
          replace hst3 : (stP (.pointer (some ⟨g3, 0, none⟩)) (.agg #[.slice (some ⟨q, 1, none⟩) v (lc - 1), .slice none 0 0])).run Tryz.prog (w2.alloc (.cells #[.slice none 0 0, .slice none 0 0] 25)) = .ok () w3 := hst3
          have hc1 : ¬ lc = 1 := by omega
          have hv1 : (v : Int) + 1 ≤ (lc : Int) := by omega
          have hv2 : (v : Int) + 2 ≤ (L : Int) := by omega
          have d16 : decide ((16 : Int) < (v : Int)) = false := by simpa using h16
          have dlen : decide ((L : Int) < (v : Int) + 2) = false := by simpa using hlen
          clear B3 b3 hB2 hM2 hV
          go_upto_region 6 with fail
          clear hst3 hg3 c0 c00 d16 dlen
          obtain ⟨m, hm⟩ : ∃ m, L - (v + 2) = m := ⟨_, rfl⟩
          obtain ⟨R, hRd⟩ : ∃ R, l.drop (v + 2) = R := ⟨_, rfl⟩
          go_cut [8] (fun r wx => ∃ (ro : Option Addr) (rc : Nat), r = .slice ro m rc ∧ Hid (ro = some ⟨q, v + 2, none⟩ ∨ (ro = some ⟨q, 0, none⟩ ∧ L = v + 2)) ∧ wx = w3)
          case first =>
            by_cases hcc : lc = v + 2
            · go_wp2_with fail
              go_meet
              case rel => exact ⟨some ⟨q, 0, none⟩, _, by first | rfl | rw [hm], .inr ⟨rfl, by omega⟩, rfl⟩
            · go_wp2_with fail
              go_meet
              case rel => exact ⟨some ⟨q, v + 2, none⟩, _, by first | rfl | rw [hm], .inl rfl, rfl⟩
          case rest =>
            obtain ⟨ro, rc, rfl, HRo, hwe⟩ := hcut
            subst hwe
            rename World => w3
            have HRs : Hid (∀ wx co cn cc C, QP w wx g1 g3 (some ⟨q, 0, none⟩) L lc l (some ⟨q, 1, none⟩) v (lc - 1) co cn cc C → V.Src wx ro m rc R) := fun wx co cn cc C h => by rw [← hm, ← hRd]; exact vsrc_rest h.row (by omega) HRo.out _
            have HBad3 := hide (HBd.out w3 HP3.out.b HP3.out.r1)
            obtain ⟨u, hu⟩ : ∃ u : Nat, (v : Int) + 1 = (u : Int) := ⟨v + 1, by omega⟩
            have cu := HP3.out.row.at.2 _ rfl u (by omega)
            rw [Addr.add_lit, Nat.zero_add] at cu
            obtain ⟨c1, hc1v, hc1b⟩ := HAn.out.at u
            rw [hc1v] at cu
            have HC1 := hide hc1v
            have huL : (u : Int) < (L : Int) := by omega
            have Hmm : Hid (L = v + 2 + m) := by show _ = _; omega
            have HRd := hide hRd
            have Hu : Hid (u = v + 1) := by show _ = _; omega
            clear hm hRd hc1v HRo
            by_cases h3 : m % 3 = 0
            rotate_left
            · have r1 : ((m : Int) % 3 != 0) = true := by rw [bne_iff_ne]; omega
              have r2 : ((m : Int).tmod 3 != 0) = true := by rw [bne_iff_ne, Int.tmod_eq_emod_of_nonneg (by omega)]; omega
              obtain ⟨t8, x8, HE⟩ := HBad3.out (fun P hP e => by
                have h1 := (HFit.out P hP e).hd
                have h2 := (HFit.out P hP e).len
                have h4 := HV.out
                have h5 := HL.out
                have h6 := Hmm.out
                omega)
              have HX := hide x8
              have HE := hide HE
              clear x8 h3
              go_wp2_with fail
              refine bodyPost_ret (res2P rfl rfl rfl HX.out) rfl ?_
              exact HE.out
            · obtain ⟨j, hj⟩ : ∃ j, m = 3 * j := ⟨m / 3, by omega⟩
              have r1 : ((m : Int) % 3 != 0) = false := by rw [bne_eq_false_iff_eq]; omega
              have r2 : ((m : Int).tmod 3 != 0) = false := by rw [bne_eq_false_iff_eq, Int.tmod_eq_emod_of_nonneg (by omega)]; omega
              have q1 : (m : Int) / 3 = (j : Int) := by omega
              have q2 : (m : Int).tdiv 3 = (j : Int) := by rw [Int.tdiv_eq_ediv_of_nonneg (by omega)]; omega
              have hjb : j ≤ 1000000000 := by have := Hmm.out; omega
              have hjb : j ≤ 1000000000 := by have := Hmm.out; omega
              have Hj := hide hj
              clear hj h3
              by_cases hjc : j = c1
              rotate_left
              · have r3 : ((j : Int) != (c1 : Int)) = true := by rw [bne_iff_ne]; omega
                obtain ⟨t8, x8, HE⟩ := HBad3.out (fun P hP e => by
                  have h1 := (HFit.out P hP e).hd
                  have h2 := (HFit.out P hP e).len
                  have h3 := (HFit.out P hP e).cn
                  have h4 := HV.out
                  have h5 := HL.out
                  have h6 := Hmm.out
                  have h7 := Hj.out
                  have h8 := Hu.out
                  have h9 := HC1.out
                  rw [h8, show v = P.vec.length by omega, h3] at h9
                  omega)
                have HX := hide x8
                have HE := hide HE
                clear x8
                go_wp2_with fail
                refine bodyPost_ret (res2P rfl rfl rfl HX.out) rfl ?_
                exact HE.out
              · have r3 : ((j : Int) != (c1 : Int)) = false := by rw [bne_eq_false_iff_eq]; omega
                go_upto_region 9 with fail
                clear r1 r2 q1 q2 r3 cu hu hjc
                go_wp2_with fail
                go_loopw [9] (fun i wx => ∃ k : Nat, k ≤ L ∧ i = .int .i64 (k : Int) ∧ Hid (∀ t, t < k → l.getD t 0 ≤ 1000000000) ∧ wx = w3) (fun i _ => L - (intOf i).toNat)
                case atStart => exact ⟨0, Nat.zero_le _, rfl, fun t ht => by omega, rfl⟩
                case round =>
                  obtain ⟨k, hk, rfl, HK, hwe⟩ := hrel
                  subst hwe
                  rename World => w3
                  by_cases hlt : k < L
                  · obtain ⟨x, hx, hxb⟩ := HAn.out.at k
                    have ck := HP3.out.row.at.2 _ rfl k hlt
                    rw [Addr.add_lit, Nat.zero_add, hx] at ck
                    have hlti : (k : Int) < (L : Int) := by omega
                    have Hx := hide hx
                    clear hx
                    by_cases hxs : (x : Int) ≤ 1000000000
                    · have HN : Hid (k + 1 ≤ L ∧ ∀ t, t < k + 1 → l.getD t 0 ≤ 1000000000) := ⟨by omega, fun t ht => by
                        by_cases e : t = k
                        · rw [e, Hx.out]; exact hxs
                        · exact HK.out t (by omega)⟩
                      have hdx : decide ((x : Int) ≤ 1000000000) = true := by simpa using hxs
                      go_wp2_with fail
                      refine (small_any (x : Int) _ (by omega)).mono ?_
                      rintro e wx ⟨rfl, rfl⟩
                      rw [hdx]
                      clear ck
                      go_wp2_with fail
                      go_roundw
                      case rel => exact ⟨k + 1, HN.out.1, by simp, HN.out.2, by first | rfl | trivial⟩
                      case measure => simp [intOf]; omega
                    · have hdx : decide ((x : Int) ≤ 1000000000) = false := by simpa using hxs
                      obtain ⟨t8, x8, HE⟩ := HBad3.out (fun P hP e => by
                        have h1 := (HFit.out P hP e).sm (l.getD k 0) (by
                          have h2 := HL.out
                          rw [List.getD_eq_getElem?_getD, List.getElem?_eq_getElem (by omega)]
                          exact List.getElem_mem _)
                        have h3 := Hx.out
                        omega)
                      have HX := hide x8
                      have HE := hide HE
                      clear x8
                      go_wp2_with fail
                      refine (small_any (x : Int) _ (by omega)).mono ?_
                      rintro e wx ⟨rfl, rfl⟩
                      rw [hdx]
                      clear ck
                      go_wp2_with fail
                      refine bodyPost_ret (res2P rfl rfl rfl HX.out) rfl ?_
                      exact HE.out
                  · have hlti : ¬ (k : Int) < (L : Int) := by omega
                    have HSm : Hid (SmN l) := fun y hy => by
                      obtain ⟨t, ht, rfl⟩ := List.getElem_of_mem hy
                      have h1 := HK.out t (by have := HL.out; omega)
                      have h2 := HAn.out _ hy
                      rw [List.getD_eq_getElem?_getD, List.getElem?_eq_getElem ht] at h1
                      exact ⟨h2.1, h1⟩
                    have HSR : Hid (SmN R ∧ R.length = m ∧ SmN Vv) := ⟨by rw [← HRd.out]; exact HSm.out.drop _, by rw [← HRd.out, List.length_drop]; have := HL.out; have := Hmm.out; omega, by rw [← HVl.out.1]; exact (HSm.out.drop _).take _⟩
                    have hmb : m ≤ 3000000000 := by have := Hmm.out; omega
                    clear HK
                    go_upto_region 15 with fail
                    go_wp2_with fail
                    go_loopw [10, 11, 12] (fun rp la i wx => ∃ (k i0 r : Nat) (y : Int) (co : Option Addr) (cc : Nat) (C : List Sn), rp = .int .i64 (r : Int) ∧ la = .int .i64 y ∧ i = .int .i64 (i0 : Int) ∧ Hid (i0 = 3 * k ∧ i0 ≤ m ∧ QP w wx g1 g3 (some ⟨q, 0, none⟩) L lc l (some ⟨q, 1, none⟩) v (lc - 1) co k cc C ∧ Lay Vv R k r y C)) (fun _ _ i _ => m + 3 - (intOf i).toNat)
                    case atStart => exact ⟨0, 0, 0, 0, none, 0, [], rfl, rfl, rfl, rfl, Nat.zero_le _, HP3.out, lay_start _ _⟩
                    case round =>
                      obtain ⟨k, i0, r, y, co, cc, C, rfl, rfl, rfl, HI⟩ := hrel
                      rename World => wy
                      obtain ⟨hi0, him, hQ, hLy⟩ := HI.out
                      by_cases hlt : i0 + 2 < m
                      · have hS := HRs.out _ _ _ _ _ hQ
                        obtain ⟨ad, hao⟩ : ∃ ad, ro = some ad := by
                          cases hro : ro with
                          | none => rw [hro] at hS; have := (hS.2.1 rfl).1; omega
                          | some x => exact ⟨x, rfl⟩
                        subst hao
                        obtain ⟨a, ha, -⟩ := (HSR.out.1).an.at i0
                        obtain ⟨b, hb, -⟩ := (HSR.out.1).an.at (i0 + 1)
                        obtain ⟨c, hc, -⟩ := (HSR.out.1).an.at (i0 + 2)
                        have ca := hS.2.2 ad rfl i0 (by omega)
                        have cb := hS.2.2 ad rfl (i0 + 1) (by omega)
                        have cd := hS.2.2 ad rfl (i0 + 2) (by omega)
                        rw [ha] at ca
                        rw [hb] at cb
                        rw [hc] at cd
                        obtain ⟨u1, hu1⟩ : ∃ u1 : Nat, i0 + 1 = u1 := ⟨_, rfl⟩
                        obtain ⟨u2, hu2⟩ : ∃ u2 : Nat, i0 + 2 = u2 := ⟨_, rfl⟩
                        obtain ⟨u3, hu3⟩ : ∃ u3 : Nat, i0 + 3 = u3 := ⟨_, rfl⟩
                        obtain ⟨r2, hr2⟩ : ∃ r2 : Nat, r + a = r2 := ⟨_, rfl⟩
                        obtain ⟨yl, hyl⟩ : ∃ yl : Int, leastN Vv (decide (k = 0)) ((r : Int) + (a : Int)) y (a : Int) = yl := ⟨_, rfl⟩
                        have hN := hLy.next HSR.out.2.2 (by rw [HSR.out.2.1, ← hi0]; exact hlt) HSR.out.1 (by rw [← hi0]; exact ha) (by rw [← hi0]; exact hb) (by rw [← hi0]; exact hc) hyl
                        rw [hr2] at hN
                        have hrb := hLy.rb
                        have hyb0 := hLy.l0
                        have hyb1 := hLy.lb
                        have hrb2 := hN.rb
                        have hkb : k ≤ 1000000000 := by omega
                        have hyx : 2 ≤ yl ∧ yl ≤ 2000000003000000004 := by
                          have h1 := hLy.lb
                          have h2 := hLy.l0
                          rw [← hyl]
                          unfold leastN
                          split
                          · split
                            · rename_i hlt2
                              have e : Vv.getD ((r : Int) + (a : Int)).toNat 0 = Vv[((r : Int) + (a : Int)).toNat]'(by omega) := by simp [List.getD, List.getElem?_eq_getElem (show ((r : Int) + (a : Int)).toNat < Vv.length by omega)]
                              rw [e]
                              have := HSR.out.2.2 _ (List.getElem_mem (show ((r : Int) + (a : Int)).toNat < Vv.length by omega))
                              omega
                            · omega
                          · omega
                        have hmm := fun t (ht : t < R.length) => (HSR.out.1 (R.getD t 0) (by rw [List.getD_eq_getElem?_getD, List.getElem?_eq_getElem ht]; exact List.getElem_mem _)).2
                        have hab : a ≤ 1000000000 := by have := hmm i0 (by rw [HSR.out.2.1]; omega); omega
                        have hbb : b ≤ 1000000000 := by have := hmm (i0 + 1) (by rw [HSR.out.2.1]; omega); omega
                        have hcb : c ≤ 1000000000 := by have := hmm (i0 + 2) (by rw [HSR.out.2.1]; omega); omega
                        obtain ⟨ylo, hylo⟩ : ∃ ylo : Int, yl + (b : Int) = ylo := ⟨_, rfl⟩
                        obtain ⟨yla, hyla⟩ : ∃ yla : Int, ylo + (c : Int) = yla := ⟨_, rfl⟩
                        rw [hylo, hyla] at hN
                        have HYl : Hid (∀ z : Int, (k = 0 ∨ 0 < a) → yl = if (r2 : Int) < (Vv.length : Int) then Vv.getD r2 0 + 2 else 2) := fun _ h => by
                          rw [← hyl]
                          unfold leastN
                          rw [if_pos (by
                            rcases h with h | h
                            · exact .inl (by simpa using h)
                            · exact .inr (by omega)), show (r : Int) + (a : Int) = (r2 : Int) by omega, Int.toNat_natCast]
                        have HYz : Hid (¬ k = 0 → a = 0 → yl = y + 2) := fun h1 h2 => by
                          rw [← hyl]
                          unfold leastN
                          rw [if_neg (by
                            rintro (h | h)
                            · exact h1 (by simpa using h)
                            · omega)]
                        have HN := hide hN
                        have HQ1 := hide hQ
                        have HI0 : Hid (i0 = 3 * k ∧ u3 = 3 * (k + 1) ∧ u3 ≤ m ∧ k + 1 ≤ 5864062014805) := ⟨hi0, by omega, by have := Hj.out; omega, by omega⟩
                        have y0 := (pbox_c0 hQ.box).1
                        have e1 : (i0 : Int) + 1 = (u1 : Int) := by omega
                        have e2 : (i0 : Int) + 2 = (u2 : Int) := by omega
                        have e3 : (i0 : Int) + 3 = (u3 : Int) := by omega
                        have er : (r : Int) + (a : Int) = (r2 : Int) := by omega
                        rw [hu1] at cb
                        rw [hu2] at cd
                        have hlti : (u2 : Int) < (m : Int) := by omega
                        have hl1 : (u1 : Int) < (m : Int) := by omega
                        have hl0 : (i0 : Int) < (m : Int) := by omega
                        have hrb3 : r2 ≤ 2000000000000000000 := by omega
                        have hyl0 := hyx.1
                        have hyl1 := hyx.2
                        have hyy : y ≤ 2000000003000000004 := by omega
                        have hylob : ylo ≤ 2000000005000000004 := by omega
                        have hylab : yla ≤ 2000000007000000004 := by omega
                        have hylo0 : 2 ≤ ylo := by omega
                        have hyla0 : 2 ≤ yla := by omega
                        clear HI hi0 him hQ hLy hS hN ha hb hc hu1 hu2 hu3 hr2 hyl hyx hmm hlt hrb hrb2 hyb1
                        have y1 := (pbox_c0 HQ1.out.box).2.1
                        by_cases hk0 : k = 0
                        · have hie : ((i0 : Int) == 0) = true := by rw [beq_iff_eq]; have := HI0.out; omega
                          have Hk0 := hide hk0
                          clear hk0
                          by_cases hrv : r2 < v
                          · have hrvi : (r2 : Int) < (v : Int) := by omega
                            have qv := (vsrc_mid (a := 1) (m := v) (c := lc - 1) HQ1.out.row (by have := Hmm.out; omega)).2.2 _ rfl r2 hrv
                            rw [HVl.out.1, Addr.add_lit] at qv
                            obtain ⟨tv, htv⟩ : ∃ tv, Vv.getD r2 0 = tv := ⟨_, rfl⟩
                            rw [htv] at qv
                            have htb : 0 ≤ tv ∧ tv ≤ 1000000000 := by
                              rw [← htv, List.getD_eq_getElem?_getD, List.getElem?_eq_getElem (by have := HVl.out; omega)]
                              exact HSR.out.2.2 _ (List.getElem_mem _)
                            have htb0 := htb.1
                            have htb1 := htb.2
                            have hyw : tv + 2 = yl := by
                              rw [HYl.out 0 (.inl Hk0.out), if_pos (by have := HVl.out; omega), htv]
                            clear htb htv
                            go_wp2_with (at_builtin; go_loud (refine J.BR.app1 HQ1.out.c ⟨(r2 : Int), ylo, yla⟩ _ rfl HI0.out.2.2.2 rfl (.tmp 134) (.tmp 139) rfl rfl rfl ?_); intro bo c2 We Re Ae; have he := HQ1.out.heldC Ae; have y10 := (pbox_c0 he).2.1; have f10 := (pbox_c0 he).2.2 1; have HPe := hide (HQ1.out.appC Ae Re); clear he Re Ae)
                            go_roundw
                            case rel => exact ⟨k + 1, u3, r2, yla, bo, c2, C ++ [⟨(r2 : Int), ylo, yla⟩], rfl, rfl, rfl, HI0.out.2.1, HI0.out.2.2.1, HPe.out, HN.out⟩
                            case measure => simp [intOf]; have := HI0.out; omega
                          · have hrvi : ¬ (r2 : Int) < (v : Int) := by omega
                            obtain rfl : yl = 2 := by
                              rw [HYl.out 0 (.inl Hk0.out), if_neg (by have := HVl.out; omega)]
                            go_wp2_with (at_builtin; go_loud (refine J.BR.app1 HQ1.out.c ⟨(r2 : Int), ylo, yla⟩ _ rfl HI0.out.2.2.2 rfl (.tmp 134) (.tmp 139) rfl rfl rfl ?_); intro bo c2 We Re Ae; have he := HQ1.out.heldC Ae; have y10 := (pbox_c0 he).2.1; have f10 := (pbox_c0 he).2.2 1; have HPe := hide (HQ1.out.appC Ae Re); clear he Re Ae)
                            go_roundw
                            case rel => exact ⟨k + 1, u3, r2, yla, bo, c2, C ++ [⟨(r2 : Int), ylo, yla⟩], rfl, rfl, rfl, HI0.out.2.1, HI0.out.2.2.1, HPe.out, HN.out⟩
                            case measure => simp [intOf]; have := HI0.out; omega
                        · have hie : ((i0 : Int) == 0) = false := by rw [beq_eq_false_iff_ne]; have := HI0.out; omega
                          have Hk0 := hide hk0
                          clear hk0
                          by_cases ha0 : 0 < a
                          · have hai : (0 : Int) < (a : Int) := by omega
                            by_cases hrv : r2 < v
                            · have hrvi : (r2 : Int) < (v : Int) := by omega
                              have qv := (vsrc_mid (a := 1) (m := v) (c := lc - 1) HQ1.out.row (by have := Hmm.out; omega)).2.2 _ rfl r2 hrv
                              rw [HVl.out.1, Addr.add_lit] at qv
                              obtain ⟨tv, htv⟩ : ∃ tv, Vv.getD r2 0 = tv := ⟨_, rfl⟩
                              rw [htv] at qv
                              have htb : 0 ≤ tv ∧ tv ≤ 1000000000 := by
                                rw [← htv, List.getD_eq_getElem?_getD, List.getElem?_eq_getElem (by have := HVl.out; omega)]
                                exact HSR.out.2.2 _ (List.getElem_mem _)
                              have htb0 := htb.1
                              have htb1 := htb.2
                              have hyw : tv + 2 = yl := by
                                rw [HYl.out 0 (.inr ha0), if_pos (by have := HVl.out; omega), htv]
                              clear htb htv
                              go_wp2_with (at_builtin; go_loud (refine J.BR.app1 HQ1.out.c ⟨(r2 : Int), ylo, yla⟩ _ rfl HI0.out.2.2.2 rfl (.tmp 134) (.tmp 139) rfl rfl rfl ?_); intro bo c2 We Re Ae; have he := HQ1.out.heldC Ae; have y10 := (pbox_c0 he).2.1; have f10 := (pbox_c0 he).2.2 1; have HPe := hide (HQ1.out.appC Ae Re); clear he Re Ae)
                              go_roundw
                              case rel => exact ⟨k + 1, u3, r2, yla, bo, c2, C ++ [⟨(r2 : Int), ylo, yla⟩], rfl, rfl, rfl, HI0.out.2.1, HI0.out.2.2.1, HPe.out, HN.out⟩
                              case measure => simp [intOf]; have := HI0.out; omega
                            · have hrvi : ¬ (r2 : Int) < (v : Int) := by omega
                              obtain rfl : yl = 2 := by
                                rw [HYl.out 0 (.inr ha0), if_neg (by have := HVl.out; omega)]
                              go_wp2_with (at_builtin; go_loud (refine J.BR.app1 HQ1.out.c ⟨(r2 : Int), ylo, yla⟩ _ rfl HI0.out.2.2.2 rfl (.tmp 134) (.tmp 139) rfl rfl rfl ?_); intro bo c2 We Re Ae; have he := HQ1.out.heldC Ae; have y10 := (pbox_c0 he).2.1; have f10 := (pbox_c0 he).2.2 1; have HPe := hide (HQ1.out.appC Ae Re); clear he Re Ae)
                              go_roundw
                              case rel => exact ⟨k + 1, u3, r2, yla, bo, c2, C ++ [⟨(r2 : Int), ylo, yla⟩], rfl, rfl, rfl, HI0.out.2.1, HI0.out.2.2.1, HPe.out, HN.out⟩
                              case measure => simp [intOf]; have := HI0.out; omega
                          · have hai : ¬ (0 : Int) < (a : Int) := by omega
                            obtain rfl : r2 = r := by omega
                            have hyw : y + 2 = yl := (HYz.out Hk0.out (by omega)).symm
                            clear er
                            go_wp2_with (at_builtin; go_loud (refine J.BR.app1 HQ1.out.c ⟨(r2 : Int), ylo, yla⟩ _ rfl HI0.out.2.2.2 rfl (.tmp 134) (.tmp 139) rfl rfl rfl ?_); intro bo c2 We Re Ae; have he := HQ1.out.heldC Ae; have y10 := (pbox_c0 he).2.1; have f10 := (pbox_c0 he).2.2 1; have HPe := hide (HQ1.out.appC Ae Re); clear he Re Ae)
                            go_roundw
                            case rel => exact ⟨k + 1, u3, r2, yla, bo, c2, C ++ [⟨(r2 : Int), ylo, yla⟩], rfl, rfl, rfl, HI0.out.2.1, HI0.out.2.2.1, HPe.out, HN.out⟩
                            case measure => simp [intOf]; have := HI0.out; omega
                      · obtain ⟨pq, hpq⟩ : ∃ pq : Pv, (⟨some ⟨q, 1, none⟩, v, lc - 1, co, k, cc, ⟨Vv, C⟩⟩ : Pv) = pq := ⟨_, rfl⟩
                        have hlti : ¬ (i0 : Int) + 2 < (m : Int) := by omega
                        have hib : i0 ≤ 3000000000 := by omega
                        have hkb : k ≤ 3000000000 := by omega
                        have HPS : Hid (PSrc wy pq) := by
                          rw [← hpq]
                          refine ⟨?_, hQ.c.src (by omega), by show v ≤ _; omega⟩
                          rw [← HVl.out.1]
                          exact vsrc_mid (m := v) hQ.row (by have := Hmm.out; omega)
                        have HPast : Hid (∀ P, InForm P → Z = pastB P → pq.P = P) := fun P hP e => by
                          have h1 := (HFit.out P hP e).past hP HV.out
                          rw [HVl.out.1, HRd.out, ← hLy.done (by rw [HSR.out.2.1]; omega)] at h1
                          rw [← hpq]
                          exact h1
                        have HKp : Hid (∀ W, Below wy.heap.size wy W → (ldP (.pointer (some ⟨g3, 0, none⟩))).run Tryz.prog W = .ok (PV pq) W ∧ (convert 28 9 (.slice ao n cap)).run Tryz.prog W = .ok (.string (strOfNums Z)) W) := fun W hW => by
                          have hQW := hQ.below hW
                          refine ⟨?_, ?_⟩
                          · rw [← hpq]
                            exact run_ldP (PBox.at (p := ⟨some ⟨q, 1, none⟩, v, lc - 1, co, k, cc, ⟨Vv, C⟩⟩) hQW.box)
                          · have hs := HS.out.below hQW.b
                            exact U.BS.str ⟨hs.1, hs.2.1, hs.2.2.1⟩
                        have HBad : Hid (∀ W, Below wy.heap.size wy W → (∀ P, InForm P → Z ≠ pastB P) → (stP (.pointer (some ⟨g1, 0, none⟩)) (.agg #[.slice none 0 0, .slice none 0 0])).run Tryz.prog W = .ok () (W.setRow g1 (PC pv0)) ∧ Hid (PBox (W.setRow g1 (PC pv0)) g1 pv0) ∧ Hid (GqP w (W.setRow g1 (PC pv0)) Z (.returned (.tuple #[PV pv0, .bool false])))) := fun W hW hno => HBd.out W (hQ.below hW).b (hQ.below hW).r1 hno
                        have HGood : Hid (∀ W, Below wy.heap.size wy W → InForm pq.P → Z = pastB pq.P → (stP (.pointer (some ⟨g1, 0, none⟩)) (PV pq)).run Tryz.prog W = .ok () (W.setRow g1 (PC pq)) ∧ (ldP (.pointer (some ⟨g3, 0, none⟩))).run Tryz.prog W = .ok (PV pq) W ∧ Hid (PBox (W.setRow g1 (PC pq)) g1 pq) ∧ Hid (GqP w (W.setRow g1 (PC pq)) Z (.returned (.tuple #[PV pq, .bool true])))) := fun W hW hI hZ => by
                          have hQW := hQ.below hW
                          refine ⟨run_stP (p' := pq) hQW.r1, (HKp.out W hW).1, setRow_heap _ _ _ _ _ _ hQW.r1, below_setRow hQW.b hQW.g1n, .inl ⟨pq, hI, hZ, rfl, psrc_off (HPS.out.below hW) (fun ad h => setRow_other _ _ _ _ (fun e => ?_)) (fun ad h => setRow_other _ _ _ _ (fun e => ?_)), fun ad h => ?_, fun ad h => ?_⟩⟩
                          · rw [← hpq] at h
                            have h1 := Option.some.inj h
                            rw [← h1] at e
                            exact (hQW.rn q rfl).2.1 e
                          · rw [← hpq] at h
                            exact (hQW.cw ad.block (by show U.blk co = _; rw [show co = some ad from h]; rfl)).2.1 e
                          · rw [← hpq] at h
                            have h1 := Option.some.inj h
                            rw [← h1]
                            exact (hQW.rn q rfl).1
                          · rw [← hpq] at h
                            exact (hQW.cw ad.block (by show U.blk co = _; rw [show co = some ad from h]; rfl)).1
                        clear HI hi0 him hQ hLy hpq
                        go_upto_region 27 with fail
                        refine wp_region_held_drew (S := fun wx => (ldP (.pointer (some ⟨g3, 0, none⟩))).run Tryz.prog wx = .ok (PV pq) wx ∧ (convert 28 9 (.slice ao n cap)).run Tryz.prog wx = .ok (.string (strOfNums Z)) wx) (by kernel_rfl) (HKp.out _ (below_drew1 wy)) (fun hHeld => ?_)
                        refine wpAnyH_take (i := 0) (oi := { dst := some 142, op := Op.load 25 (Operand.tmp 7), type := 25, pos := "ref.go:175", after := #[], guard := none }) (v := ?_) rfl (by kernel_rfl) (by kernel_rfl) (by kernel_rfl) (fun _ _ _ h => h) (Or.inl ⟨by rfl, ?_⟩) (by assumption) ?_
                        rotate_left
                        · (intro w hSw; (try dsimp only at hSw); go_simp); first | done | with_reducible rfl
                        simp only [Act.put, List.setIfInBounds_toArray, List.set_cons_zero, List.set_cons_succ]
                        refine wpAnyH_ready (rs := [1]) (by kernel_rfl) (by simp) ?_
                        refine AllReadyH.cons rfl (fun K hK => ?_) ?_
                        rotate_left
                        · exact AllReadyH.nil
                        go_simp
                        go_wp2_with fail
                        refine (refIsNorm_any pq _ (HPS.out.below (below_drew1 wy))).mono ?_
                        rintro e w8 ⟨b, rfl, hb, b8⟩
                        have hB8 : Below wy.heap.size wy w8 := (below_drew1 wy).trans b8
                        have HB8 := hide hB8
                        have HI : Hid (BIf b (InForm pq.P)) := hb
                        refine hK.out _ _ (HKp.out _ hB8) (fun hHeld => ?_)
                        clear hK K hB8 b8 hb
                        cases b with
                        | false =>
                          refine wpAnyH_take (i := 2) (oi := { dst := some 144, op := Op.unOp UnOp.not 4 (Operand.tmp 143), type := 4, pos := "ref.go:175", after := #[{ on := 1, ground := Ground.data }], guard := none }) (v := ?_) rfl (by kernel_rfl) (by kernel_rfl) (by kernel_rfl) (fun _ _ _ h => h) (Or.inl ⟨by rfl, ?_⟩) (by assumption) ?_
                          rotate_left
                          · (intro w hSw; (try dsimp only at hSw); go_simp); first | done | with_reducible rfl
                          simp only [Act.put, List.setIfInBounds_toArray, List.set_cons_zero, List.set_cons_succ]
                          refine wpAnyH_take (i := 3) (oi := { dst := some 145, op := Op.move (Operand.tmp 144), type := 4, pos := "ref.go:175", after := #[{ on := 2, ground := Ground.data }, { on := 1, ground := Ground.chain }], guard := none }) (v := ?_) rfl (by kernel_rfl) (by kernel_rfl) (by kernel_rfl) (fun _ _ _ h => h) (Or.inl ⟨by rfl, ?_⟩) (by assumption) ?_
                          rotate_left
                          · (intro w hSw; (try dsimp only at hSw); go_simp); first | done | with_reducible rfl
                          simp only [Act.put, List.setIfInBounds_toArray, List.set_cons_zero, List.set_cons_succ]
                          refine wpAnyH_take (i := 4) (oi := { dst := some 146, op := Op.load 25 (Operand.tmp 7), type := 25, pos := "ref.go:175", after := #[{ on := 3, ground := Ground.guard }], guard := some (3, false) }) (v := undef) rfl (by kernel_rfl) (by kernel_rfl) (by kernel_rfl) (fun _ _ _ h => h) (Or.inr ⟨by rfl, by rfl⟩) (by assumption) ?_
                          simp only [Act.put, List.setIfInBounds_toArray, List.set_cons_zero, List.set_cons_succ]
                          refine wpAnyH_take (i := 5) (oi := { dst := some 147, op := Op.call { callee := Callee.value (Operand.func 14), args := #[Operand.tmp 146], argTypes := #[25] }, type := 28, pos := "ref.go:175", after := #[{ on := 4, ground := Ground.data }, { on := 3, ground := Ground.chain }, { on := 3, ground := Ground.guard }], guard := some (3, false) }) (v := undef) rfl (by kernel_rfl) (by kernel_rfl) (by kernel_rfl) (fun _ _ _ h => h) (Or.inr ⟨by rfl, by rfl⟩) (by assumption) ?_
                          simp only [Act.put, List.setIfInBounds_toArray, List.set_cons_zero, List.set_cons_succ]
                          refine wpAnyH_take (i := 6) (oi := { dst := some 148, op := Op.convert 28 9 (Operand.tmp 147), type := 9, pos := "ref.go:175", after := #[{ on := 5, ground := Ground.data }, { on := 3, ground := Ground.guard }], guard := some (3, false) }) (v := undef) rfl (by kernel_rfl) (by kernel_rfl) (by kernel_rfl) (fun _ _ _ h => h) (Or.inr ⟨by rfl, by rfl⟩) (by assumption) ?_
                          simp only [Act.put, List.setIfInBounds_toArray, List.set_cons_zero, List.set_cons_succ]
                          refine wpAnyH_take (i := 7) (oi := { dst := some 149, op := Op.move (Operand.tmp 0), type := 28, pos := "ref.go:175", after := #[{ on := 3, ground := Ground.guard }], guard := some (3, false) }) (v := undef) rfl (by kernel_rfl) (by kernel_rfl) (by kernel_rfl) (fun _ _ _ h => h) (Or.inr ⟨by rfl, by rfl⟩) (by assumption) ?_
                          simp only [Act.put, List.setIfInBounds_toArray, List.set_cons_zero, List.set_cons_succ]
                          refine wpAnyH_take (i := 8) (oi := { dst := some 150, op := Op.convert 28 9 (Operand.tmp 149), type := 9, pos := "ref.go:175", after := #[{ on := 7, ground := Ground.data }, { on := 3, ground := Ground.guard }], guard := some (3, false) }) (v := undef) rfl (by kernel_rfl) (by kernel_rfl) (by kernel_rfl) (fun _ _ _ h => h) (Or.inr ⟨by rfl, by rfl⟩) (by assumption) ?_
                          simp only [Act.put, List.setIfInBounds_toArray, List.set_cons_zero, List.set_cons_succ]
                          refine wpAnyH_take (i := 9) (oi := { dst := some 151, op := Op.binOp BinOp.neq 9 (Operand.tmp 148) (Operand.tmp 150) 9, type := 4, pos := "ref.go:175", after := #[{ on := 6, ground := Ground.data }, { on := 8, ground := Ground.data }, { on := 3, ground := Ground.guard }], guard := some (3, false) }) (v := undef) rfl (by kernel_rfl) (by kernel_rfl) (by kernel_rfl) (fun _ _ _ h => h) (Or.inr ⟨by rfl, by rfl⟩) (by assumption) ?_
                          simp only [Act.put, List.setIfInBounds_toArray, List.set_cons_zero, List.set_cons_succ]
                          refine wpAnyH_take (i := 10) (oi := { dst := some 152, op := Op.pick (Operand.tmp 145) (Operand.const (Value.bool true)) (Operand.tmp 151), type := 4, pos := "ref.go:175", after := #[{ on := 3, ground := Ground.data }, { on := 9, ground := Ground.data }], guard := none }) (v := ?_) rfl (by kernel_rfl) (by kernel_rfl) (by kernel_rfl) (fun _ _ _ h => h) (Or.inl ⟨by rfl, ?_⟩) (by assumption) ?_
                          rotate_left
                          · (intro w hSw; (try dsimp only at hSw); go_simp); first | done | with_reducible rfl
                          simp only [Act.put, List.setIfInBounds_toArray, List.set_cons_zero, List.set_cons_succ]
                          refine wpAnyH_done (by kernel_rfl) ?_ _
                          clear hHeld
                          obtain ⟨t8, x8, HE⟩ := HBad.out w8 HB8.out (fun P hP e => by
                            have h1 := HPast.out P hP e
                            rw [h1] at HI
                            have := HI.out.2 hP
                            cases this)
                          clear HKp
                          go_wp2_with fail
                          refine bodyPost_ret (res2P rfl rfl rfl x8.out) rfl ?_
                          exact HE.out
                        | true =>
                          refine wpAnyH_take (i := 2) (oi := { dst := some 144, op := Op.unOp UnOp.not 4 (Operand.tmp 143), type := 4, pos := "ref.go:175", after := #[{ on := 1, ground := Ground.data }], guard := none }) (v := ?_) rfl (by kernel_rfl) (by kernel_rfl) (by kernel_rfl) (fun _ _ _ h => h) (Or.inl ⟨by rfl, ?_⟩) (by assumption) ?_
                          rotate_left
                          · (intro w hSw; (try dsimp only at hSw); go_simp); first | done | with_reducible rfl
                          simp only [Act.put, List.setIfInBounds_toArray, List.set_cons_zero, List.set_cons_succ]
                          refine wpAnyH_take (i := 3) (oi := { dst := some 145, op := Op.move (Operand.tmp 144), type := 4, pos := "ref.go:175", after := #[{ on := 2, ground := Ground.data }, { on := 1, ground := Ground.chain }], guard := none }) (v := ?_) rfl (by kernel_rfl) (by kernel_rfl) (by kernel_rfl) (fun _ _ _ h => h) (Or.inl ⟨by rfl, ?_⟩) (by assumption) ?_
                          rotate_left
                          · (intro w hSw; (try dsimp only at hSw); go_simp); first | done | with_reducible rfl
                          simp only [Act.put, List.setIfInBounds_toArray, List.set_cons_zero, List.set_cons_succ]
                          refine wpAnyH_take (i := 4) (oi := { dst := some 146, op := Op.load 25 (Operand.tmp 7), type := 25, pos := "ref.go:175", after := #[{ on := 3, ground := Ground.guard }], guard := some (3, false) }) (v := ?_) rfl (by kernel_rfl) (by kernel_rfl) (by kernel_rfl) (fun _ _ _ h => h) (Or.inl ⟨by rfl, ?_⟩) (by assumption) ?_
                          rotate_left
                          · (intro w hSw; (try dsimp only at hSw); go_simp); first | done | with_reducible rfl
                          simp only [Act.put, List.setIfInBounds_toArray, List.set_cons_zero, List.set_cons_succ]
                          refine wpAnyH_take (i := 7) (oi := { dst := some 149, op := Op.move (Operand.tmp 0), type := 28, pos := "ref.go:175", after := #[{ on := 3, ground := Ground.guard }], guard := some (3, false) }) (v := ?_) rfl (by kernel_rfl) (by kernel_rfl) (by kernel_rfl) (fun _ _ _ h => h) (Or.inl ⟨by rfl, ?_⟩) (by assumption) ?_
                          rotate_left
                          · (intro w hSw; (try dsimp only at hSw); go_simp); first | done | with_reducible rfl
                          simp only [Act.put, List.setIfInBounds_toArray, List.set_cons_zero, List.set_cons_succ]
                          refine wpAnyH_take (i := 8) (oi := { dst := some 150, op := Op.convert 28 9 (Operand.tmp 149), type := 9, pos := "ref.go:175", after := #[{ on := 7, ground := Ground.data }, { on := 3, ground := Ground.guard }], guard := some (3, false) }) (v := ?_) rfl (by kernel_rfl) (by kernel_rfl) (by kernel_rfl) (fun _ _ _ h => h) (Or.inl ⟨by rfl, ?_⟩) (by assumption) ?_
                          rotate_left
                          · (intro w hSw; (try dsimp only at hSw); go_simp); first | done | with_reducible rfl
                          simp only [Act.put, List.setIfInBounds_toArray, List.set_cons_zero, List.set_cons_succ]
                          refine wpAnyH_ready (rs := [5]) (by kernel_rfl) (by simp) ?_
                          refine AllReadyH.cons rfl (fun K hK => ?_) ?_
                          rotate_left
                          · exact AllReadyH.nil
                          go_simp
                          go_wp2_with fail
                          refine (rputPast14_any pq _ (HPS.out.below HB8.out) (HI.out.1 rfl)).mono ?_
                          rintro e w9 ⟨bo9, m9, cc9, rfl, hW9⟩
                          have hB9 : Below wy.heap.size wy w9 := HB8.out.trans (hW9.nw.1.mono HB8.out.size)
                          have HB9 := hide hB9
                          have hcv := hW9.r.bs.str
                          refine hK.out _ _ (HKp.out _ hB9) (fun hHeld => ?_)
                          clear hK K hB9 hW9
                          refine wpAnyH_ready (rs := [6]) (by kernel_rfl) (by simp) ?_
                          refine AllReadyH.cons rfl (fun K hK => ?_) ?_
                          rotate_left
                          · exact AllReadyH.nil
                          go_simp
                          refine hK.out _ _ (HKp.out _ HB9.out) (fun hHeld => ?_)
                          clear hK K hcv
                          by_cases hZ9 : pastB pq.P = Z
                          · have hne : (!(strOfNums (pastB pq.P)).toList == (strOfNums Z).toList) = false := by rw [hZ9]; simp
                            refine wpAnyH_take (i := 9) (oi := { dst := some 151, op := Op.binOp BinOp.neq 9 (Operand.tmp 148) (Operand.tmp 150) 9, type := 4, pos := "ref.go:175", after := #[{ on := 6, ground := Ground.data }, { on := 8, ground := Ground.data }, { on := 3, ground := Ground.guard }], guard := some (3, false) }) (v := ?_) rfl (by kernel_rfl) (by kernel_rfl) (by kernel_rfl) (fun _ _ _ h => h) (Or.inl ⟨by rfl, ?_⟩) (by assumption) ?_
                            rotate_left
                            · (intro w hSw; (try dsimp only at hSw); go_simp); first | done | with_reducible rfl
                            simp only [Act.put, List.setIfInBounds_toArray, List.set_cons_zero, List.set_cons_succ]
                            refine wpAnyH_take (i := 10) (oi := { dst := some 152, op := Op.pick (Operand.tmp 145) (Operand.const (Value.bool true)) (Operand.tmp 151), type := 4, pos := "ref.go:175", after := #[{ on := 3, ground := Ground.data }, { on := 9, ground := Ground.data }], guard := none }) (v := ?_) rfl (by kernel_rfl) (by kernel_rfl) (by kernel_rfl) (fun _ _ _ h => h) (Or.inl ⟨by rfl, ?_⟩) (by assumption) ?_
                            rotate_left
                            · (intro w hSw; (try dsimp only at hSw); go_simp); first | done | with_reducible rfl
                            simp only [Act.put, List.setIfInBounds_toArray, List.set_cons_zero, List.set_cons_succ]
                            refine wpAnyH_done (by kernel_rfl) ?_ _
                            clear hHeld
                            obtain ⟨t8, l8, x8, HE⟩ := HGood.out w9 HB9.out (HI.out.1 rfl) hZ9.symm
                            clear HKp
                            go_wp2_with fail
                            refine bodyPost_ret (res2P rfl rfl rfl x8.out) rfl ?_
                            exact HE.out
                          · have hne : (!(strOfNums (pastB pq.P)).toList == (strOfNums Z).toList) = true := str_ne (pastB_oc (HI.out.1 rfl)) HO.out hZ9
                            refine wpAnyH_take (i := 9) (oi := { dst := some 151, op := Op.binOp BinOp.neq 9 (Operand.tmp 148) (Operand.tmp 150) 9, type := 4, pos := "ref.go:175", after := #[{ on := 6, ground := Ground.data }, { on := 8, ground := Ground.data }, { on := 3, ground := Ground.guard }], guard := some (3, false) }) (v := ?_) rfl (by kernel_rfl) (by kernel_rfl) (by kernel_rfl) (fun _ _ _ h => h) (Or.inl ⟨by rfl, ?_⟩) (by assumption) ?_
                            rotate_left
                            · (intro w hSw; (try dsimp only at hSw); go_simp); first | done | with_reducible rfl
                            simp only [Act.put, List.setIfInBounds_toArray, List.set_cons_zero, List.set_cons_succ]
                            refine wpAnyH_take (i := 10) (oi := { dst := some 152, op := Op.pick (Operand.tmp 145) (Operand.const (Value.bool true)) (Operand.tmp 151), type := 4, pos := "ref.go:175", after := #[{ on := 3, ground := Ground.data }, { on := 9, ground := Ground.data }], guard := none }) (v := ?_) rfl (by kernel_rfl) (by kernel_rfl) (by kernel_rfl) (fun _ _ _ h => h) (Or.inl ⟨by rfl, ?_⟩) (by assumption) ?_
                            rotate_left
                            · (intro w hSw; (try dsimp only at hSw); go_simp); first | done | with_reducible rfl
                            simp only [Act.put, List.setIfInBounds_toArray, List.set_cons_zero, List.set_cons_succ]
                            refine wpAnyH_done (by kernel_rfl) ?_ _
                            clear hHeld
                            obtain ⟨t8, x8, HE⟩ := HBad.out w9 HB9.out (fun P hP e => hZ9 (by rw [HPast.out P hP e]; exact e.symm))
                            clear HKp
                            go_wp2_with fail
                            refine bodyPost_ret (res2P rfl rfl rfl x8.out) rfl ?_
                            exact HE.out
end Go.Proofs.YtbmjiedpaffifaaGreat
