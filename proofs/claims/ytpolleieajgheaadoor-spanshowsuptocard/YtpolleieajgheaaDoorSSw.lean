/- The reference's sweep: its contract. -/
import Derived.Test.YtpolleieajgheaaDoorSMs
import Derived.Test.YtpolleieajgheaaDoorSSo
import Derived.Test.YtpolleieajgheaaDoorSPm
import Derived.Deep.OwnRows
namespace Go.Proofs.YtpolleieajgheaaDoor
open Go.RowKit
attribute [local go_sem ↓] ldM_eq
attribute [local go_sem] zero_RC cells_RV RC_size fold_RC

theorem build_RC' (x y : Int) : ((RC rn0).setIfInBounds 0 (.int .i64 x)).setIfInBounds 1 (.int .i64 y) = RC ⟨x, y⟩ := rfl
attribute [local go_sem] build_RC'
def mkI (a b : Value) : Sem Value := Instr.makeSlice 57 a b
theorem mkI_eq (a b : Value) : Instr.makeSlice 57 a b = mkI a b := rfl
attribute [local go_sem ↓] mkI_eq
/-- a row of numbers that the call owns -/
def DRow (w : World) (g q : Nat) (ds : List Int) : Prop := w.rowIs g 3 q (fun i => .int .i64 (ds.getD i 0))
theorem madeI (w : World) (q : Nat) (hq : q ≤ 8796093022207) : ∃ w' : World, (mkI (.int .i64 (q : Int)) (.int .i64 (q : Int))).run Tryd.prog w = .ok (.slice (some ⟨w.heap.size, 0, none⟩) q q) w' ∧ DRow w' w.heap.size q (List.replicate q 0) ∧ Below w.heap.size w w' ∧ w'.heap.size = w.heap.size + 1 := by
  have hinfo : (Tryd.prog.info? 3).map (fun i => (i.zero, i.size, i.bytes)) = some (some (.int .i64 0), 1, 8) := by kernel_rfl
  have h := run_make_row' (P := Tryd.prog) 57 3 (.int .i64 0) 8 Tryd.underlying57 hinfo rfl .i64 .i64 q (by omega) (by omega) w
  refine ⟨_, h, ?_, below_new w _, by simp⟩
  refine (World.rowIs_made w (.int .i64 0) q 3).congr (fun i hi => ?_)
  simp [List.getD, hi]
theorem DRow.of_block {w w' : World} {g q : Nat} {ds : List Int} (h : DRow w g q ds) (e : w'.heap[g]? = w.heap[g]?) : DRow w' g q ds := World.rowIs.of_block h e
theorem DRow.set {w : World} {g q : Nat} {ds : List Int} (h : DRow w g q ds) (hl : ds.length = q) (s : Nat) (hs : s < q) (v : Int) : DRow (w.setCell ⟨g, s, none⟩ (.int .i64 v)) g q (ds.set s v) := by
  refine (World.rowIs.set h s (.int .i64 v)).congr (fun i hi => ?_)
  by_cases e : i = s
  · subst e; simp [List.getD, hl, hs]
  · simp [List.getD, e, Ne.symm e]
/-- a store elsewhere -/
theorem OwnR.other {B0 B : Nat} {w w' : World} {ao : Option Addr} {cap : Nat} {acc : List Rn} (O : OwnR B0 B w w' ao cap acc) {a : Addr} (h1 : B0 ≤ a.block) (h2 : a.block < B) (v : Value) : OwnR B0 B w (w'.setCell a v) ao cap acc := by
  refine ⟨⟨O.own.1, ?_⟩, O.below.setCell h1 _, by simpa [World.setCell] using O.hB, O.hB0⟩
  rcases O.own.2 with h | ⟨g, c, cur, hv, hbg, hgg, r⟩
  · exact Or.inl h
  · exact Or.inr ⟨g, c, cur, hv, hbg, (Go.Deep.blk_setCell_other _ _ _ _ (by omega)).trans hgg, r⟩
theorem OwnR.append3 {B0 B : Nat} {w w' : World} {ao : Option Addr} {cap : Nat} {acc : List Rn} (O : OwnR B0 B w w' ao cap acc) (e : Rn) (C : Array Value) (hC : C = RC e) (hlen : acc.length < 8796093022207)
    {ops : Array Oper} {rest : List Oper} {o : Oper} {a : Act} {Q : Exit → Act → World → Prop} (hgd : o.guard = none) (s x : Operand) (ho : o.op = .call { callee := .builtin .append, args := #[s, x], argTypes := #[22, 22] })
    (n : Nat) (hn : acc.length = n) (hs : a.eval s = .slice ao n cap) (hx : a.eval x = .slice (some ⟨w'.heap.size, 0, none⟩) 1 1)
    (hK : ∀ (g cap2 : Nat) (w2 : World), OwnR B0 B w w2 (some ⟨g, 0, none⟩) cap2 (acc ++ [e]) → (∀ k, k < B → w2.heap[k]? = w'.heap[k]?) → wpList Tryd.prog ops Q rest (a.put o.dst (.slice (some ⟨g, 0, none⟩) (n + 1) cap2)) w2) :
    wpList Tryd.prog ops Q (o :: rest) a (w'.alloc (.cells C 25)) := by
  subst hn hC
  obtain ⟨i0, hi, hz0, hz1, hz2⟩ := info_parts infoR
  have hB := O.hB
  have hB0 := O.hB0
  refine wpList_append_own _ hgd s x 22 ho B 25 i0 (.agg #[.int .i64 0, .int .i64 0]) 2 16 Tryd.underlying22 hi hz0 hz1 hz2 rfl (by decide) _ acc.length (rcs acc) hs (O.own.alloc _) ⟨w'.heap.size, 0, none⟩ 1 1 (RC e).toList hx (by simp [RC]) ?_ ?_ (by unfold maxLen; omega) (by omega) (by simp; omega) ?_
  · intro j u hj
    rw [Addr.add_lit, Nat.zero_add, World.cell?_alloc_new]
    simpa using hj
  · intro u hu
    exact RC_one e u hu
  · intro v' w2 hown hgrow _
    rcases hown.2 with ⟨h0, h00⟩ | ⟨g, cap2, cur, hv, r⟩
    · omega
    · subst hv
      have hrow : ∀ k, (Value.slice ao acc.length cap).ownBlock = some k → B ≤ k := fun k hk => (O.own.lt k hk).1
      have hsz := hgrow.size
      rw [World.size_alloc] at hsz
      refine hK g cap2 w2 ⟨?_, (O.below.alloc (by omega) _).grown hgrow (by simp; omega) (fun k hk => by have := hrow k hk; omega), by omega, hB0⟩ (fun k hk => ?_)
      · rw [List.length_append, rcs_append, rcs_one]; exact hown
      · rw [hgrow.block k (by simp; omega) (fun e => by have := hrow k e.symm; omega)]
        exact Below.heap_alloc _ _ _ (by omega)
/-- the last run's end is written over -/
theorem OwnR.setEnd {B0 B : Nat} {w w' : World} {g cap : Nat} {i : List Rn} {x : Rn} (O : OwnR B0 B w w' (some ⟨g, 0, none⟩) cap (i ++ [x])) (h : Int) : OwnR B0 B w (w'.setCell ⟨g, i.length * 2 + 1, none⟩ (.int .i64 h)) (some ⟨g, 0, none⟩) cap (i ++ [⟨x.lo, h⟩]) ∧ w'.frozen? ⟨g, i.length * 2 + 1, none⟩ = false ∧ B ≤ g := by
  have hln : (i ++ [(⟨x.lo, h⟩ : Rn)]).length = (i ++ [x]).length := by simp
  rcases O.own.2 with ⟨h0, _⟩ | ⟨g', c, cur, hv, hbg, hgg, hnc, hcm, hcsz, htake⟩
  · cases h0
  · simp only [Value.slice.injEq, Option.some.injEq, true_and, Addr.mk.injEq, and_true] at hv
    obtain ⟨rfl, rfl⟩ := hv
    have hB := O.hB
    refine ⟨⟨⟨by rw [rcs_length], Or.inr ⟨g, cap, cur.setIfInBounds (i.length * 2 + 1) (.int .i64 h), by rw [hln], hbg, heap_setCell_same w' g (i.length * 2 + 1) cur 25 _ hgg, by rw [hln]; exact hnc, hcm, by simpa using hcsz, ?_⟩⟩, O.below.setCell (by have := O.hB0; show B0 ≤ g; omega) _, by simpa [World.setCell] using hB, O.hB0⟩, by simp [World.frozen?, hgg], hbg⟩
    rw [Array.toList_setIfInBounds, List.take_set, hln, htake, rcs_append, rcs_append, rcs_one, rcs_one, List.set_append_right _ _ (by rw [rcs_length]; omega), rcs_length]
    rw [show i.length * 2 + 1 - i.length * 2 = 1 by omega]
    rfl
theorem OwnR.ends {B0 B : Nat} {w w' : World} {ao : Option Addr} {cap : Nat} {i : List Rn} {x : Rn} (O : OwnR B0 B w w' ao cap (i ++ [x])) (hl : (i ++ [x]).length ≤ 8796093022207) : ∃ g, ao = some ⟨g, 0, none⟩ ∧ w'.cell? ⟨g, i.length * 2 + 1, none⟩ = some (.int .i64 x.hi) := by
  rcases O.own.2 with ⟨h0, h00⟩ | ⟨g, c, cur, hv, r⟩
  · simp at h00
  · simp only [Value.slice.injEq, true_and] at hv
    obtain ⟨rfl, rfl⟩ := hv
    obtain ⟨S, _⟩ := O.src hl
    have := (S.nums i.length (by simp)).2
    rw [Nat.zero_add] at this
    refine ⟨g, rfl, ?_⟩
    simpa [List.getD] using this
set_option maxRecDepth 100000 in
set_option maxHeartbeats 16000000 in
theorem sweep_any (ao : Option Addr) (q cp : Nat) (X : List Sl) (how : Int) (w : World) (hC : CSrc w ao q X) (hq0 : 0 < q) (hlen : tot X ≤ 8589934592) :
    Calls Tryd.prog 20 #[.slice ao q cp, .int .i64 how] w fun e w' => GivesR w w' e (fun R => form 1 R ∧ ∀ n, mem R n ↔ Kept how (lsts X) n) := by
  have HC := hide hC
  have HL : Hid (X.length = q) := hC.len
  have hq := hC.big
  have HQ : Hid ((lsts X).length = q) := by show _ = _; rw [lsts_len, HL.out]
  clear hC
  go_enter Tryd.func20, Tryd.ntmps20
  go_wp2_with fail
  refine (marks_any ao q cp X _ HC.out hlen).mono ?_
  rintro e w1 ⟨a1, n1, c1, l1, rfl, S1, F1, b1, e1⟩
  have HS1 := hide S1
  have HB1 := hide b1
  have HE1 := hide e1
  have hn1 : n1 ≤ 17179869184 := by
    rw [← S1.len, e1]
    have := mksTo_len HC.out.src q (by rw [HL.out]; exact Nat.le_refl _)
    have := tot_take X q
    omega
  clear S1 b1 e1 F1
  go_wp2_with fail
  refine (sorted_any a1 n1 c1 l1 _ HS1.out hn1).mono ?_
  rintro e w2 ⟨a2, c2, l, rfl, S2, b2, p2, r2⟩
  have HS2 := hide S2
  have HB2 := hide (HB1.out.trans (b2.mono HB1.out.size))
  have HP : Hid (l.Perm (mksTo (lsts X) q)) := by rw [← HE1.out]; exact p2
  have HR := hide r2
  have HN : Hid (l.length = n1) := S2.len
  have HOK : Hid (∀ m, m ∈ l → MkOK q m) := fun m hm => mks_ok (lsts X) q (Nat.le_refl _) m (HP.out.mem_iff.1 hm)
  clear S2 b2 p2 r2 HS1 HB1 HE1
  obtain ⟨w3, hmk, D3, b3, z3⟩ := madeI w2 q hq
  have HD3 := hide D3
  have HO3 : Hid (OwnR w2.heap.size (w2.heap.size + 1) w2 w3 none 0 []) := OwnR.nil b3 (by omega) (by omega)
  obtain ⟨g, Hg⟩ : ∃ g, Hid (w2.heap.size = g) := ⟨_, rfl⟩
  rw [Hg.out] at HD3 HO3 hmk
  clear D3 b3 z3
  go_wp2_with fail
  clear hmk
  go_loopw [7, 8, 9] (fun c v i wr => ∃ (k : Nat) (ci : Int) (ap : Option Addr) (cc : Nat) (acc : List Rn) (ds : List Int), k ≤ n1 ∧ c = .int .i64 ci ∧ v = .slice ap acc.length cc ∧ i = .int .i64 k ∧ Hid (SwInv how q l k acc ∧ Dep q (l.take k) ds ∧ ci = (ds.countP pos : Nat) ∧ DRow wr g q ds ∧ OwnR g (g + 1) w2 wr ap cc acc)) (fun _ _ i _ => n1 - (intOf i).toNat)
  case atStart => exact ⟨0, 0, none, 0, [], List.replicate q 0, Nat.zero_le _, rfl, rfl, rfl, SwInv.start hq0, Dep.start q, by rw [List.countP_eq_zero.2 (fun a ha => by rw [List.eq_of_mem_replicate ha]; simp [pos])]; rfl, HD3.out, HO3.out⟩
  case round =>
    clear HD3 HO3
    obtain ⟨k, ci, ap, cc, acc, ds, hk, rfl, rfl, rfl, H⟩ := hrel
    rename World => w4
    have hal := form_small (Int.le_refl _) H.out.1.frm
    by_cases hlt : k < n1
    · have HS4 := hide (HS2.out.below (by have := H.out.2.2.2.2.below; rw [← Hg.out] at this; exact this))
      obtain ⟨gl, rfl, A0⟩ := HS4.out.at k hlt
      have c0 := A0.c0
      obtain ⟨x, Hx⟩ : ∃ x, Hid ((l.getD k mk0).pos = x) := ⟨_, rfl⟩
      rw [Hx.out] at c0
      have hkl : k < l.length := by rw [HN.out]; exact hlt
      have hxb : 1 ≤ x ∧ x ≤ 1000000001 := by
        have := HOK.out _ (by rw [getD_of_lt hkl]; exact List.getElem_mem _ : l.getD k mk0 ∈ l)
        rw [← Hx.out]; exact ⟨this.1, this.2.1⟩
      obtain ⟨hx1, hx2⟩ := hxb
      clear A0 HS4
      go_wp2_with fail
      clear c0
      go_loopw [7, 9] (fun c i wr => ∃ (k1 : Nat) (ci : Int) (ds : List Int), k ≤ k1 ∧ k1 ≤ n1 ∧ c = .int .i64 ci ∧ i = .int .i64 k1 ∧ Hid (Dep q (l.take k1) ds ∧ ci = (ds.countP pos : Nat) ∧ DRow wr g q ds ∧ OwnR g (g + 1) w2 wr ap cc acc ∧ ∀ j, k ≤ j → j < k1 → (l.getD j mk0).pos = x)) (fun _ i _ => n1 - (intOf i).toNat)
      case atStart => exact ⟨k, ci, ds, Nat.le_refl _, by omega, rfl, rfl, H.out.2.1, H.out.2.2.1, H.out.2.2.2.1, H.out.2.2.2.2, fun j h1 h2 => by omega⟩
      case round =>
        have HI := hide H.out.1
        clear H
        obtain ⟨k1, ci, ds, hkk, hk1, rfl, rfl, H⟩ := hrel
        rename World => w5
        have HS5 := hide (HS2.out.below (by have := H.out.2.2.2.1.below; rw [← Hg.out] at this; exact this))
        have hcb : 0 ≤ ci ∧ ci ≤ q := by rw [H.out.2.1]; have := cnt_le H.out.1.1; omega
        obtain ⟨hc0, hcq⟩ := hcb
        by_cases hin : k1 < n1 ∧ (l.getD k1 mk0).pos = x
        · obtain ⟨hk1l, hpx⟩ := hin
          have hkl1 : k1 < l.length := by rw [HN.out]; exact hk1l
          obtain ⟨gl', hgl, A0⟩ := HS5.out.at k1 hk1l
          cases hgl
          have c0 := A0.c0
          have c1 := A0.c1
          have c2 := A0.c2
          rw [Addr.add_lit] at c1 c2
          rw [hpx] at c0
          have hok := HOK.out _ (by rw [getD_of_lt hkl1]; exact List.getElem_mem _ : l.getD k1 mk0 ∈ l)
          have hsl : (l.getD k1 mk0).num < ds.length := by rw [H.out.1.1]; exact hok.2.2.1
          have HDS := hide (H.out.1.step _ hok.2.2.1)
          rw [← take_getD hkl1] at HDS
          obtain ⟨d, Hd⟩ : ∃ d, Hid (ds.getD (l.getD k1 mk0).num 0 = d) := ⟨_, rfl⟩
          have hdb : -17179869184 ≤ d ∧ d ≤ 17179869184 := by
            have := dp_bd (l.take k1) (l.getD k1 mk0).num (fun m hm => (HOK.out m (List.mem_of_mem_take hm)).2.2.2)
            rw [← H.out.1.2 _ hok.2.2.1, Hd.out, List.length_take] at this
            omega
          have hcs := cnt_set hsl (ds.getD (l.getD k1 mk0).num 0 + (l.getD k1 mk0).step)
          rw [Hd.out] at HDS hcs
          have hstep := hok.2.2.2
          have hnum := hok.2.2.1
          have HPX : Hid (∀ j, k ≤ j → j < k1 + 1 → (l.getD j mk0).pos = x) := fun j h1 h2 => by
            by_cases e : j = k1
            · rw [e]; exact hpx
            · exact H.out.2.2.2.2 j h1 (by omega)
          obtain ⟨s, Hs⟩ : ∃ s, Hid ((l.getD k1 mk0).num = s) := ⟨_, rfl⟩
          obtain ⟨u, Hu⟩ : ∃ u, Hid ((l.getD k1 mk0).step = u) := ⟨_, rfl⟩
          rw [Hs.out] at c1 HDS hcs hnum Hd hsl
          rw [Hu.out] at c2 HDS hcs hstep
          have HC2 := hide c2
          rw [← H.out.2.1] at hcs
          have cd := World.rowIs.cell H.out.2.2.1 hnum
          rw [Hd.out] at cd
          have fz := World.rowIs.frozen H.out.2.2.1 s
          have HD6 := hide (DRow.set H.out.2.2.1 H.out.1.1 s hnum (d + u))
          have HO6 := hide (H.out.2.2.2.1.other (a := ⟨g, s, none⟩) (Nat.le_refl _) (by show g < g + 1; omega) (.int .i64 (d + u)))
          have cd6 := World.rowIs.cell HD6.out hnum
          rw [show (ds.set s (d + u)).getD s 0 = d + u by simp [List.getD, hsl]] at cd6
          have hwd : IntKind.i64.wrap (d + u) = d + u := by rw [IntKind.wrap_i64]; omega
          have hpp : (x == x) = true := by simp
          have hsq : (s : Int) < (q : Int) := by omega
          clear A0 hok hpx hsl hkl1
          obtain ⟨ce, Hce⟩ : ∃ ce, Hid (((ds.set s (d + u)).countP pos : Int) = ce) := ⟨_, rfl⟩
          rw [Hce.out] at hcs
          have HF : ∀ wz, Below (w5.setCell ⟨g, s, none⟩ (.int .i64 (d + u))).heap.size (w5.setCell ⟨g, s, none⟩ (.int .i64 (d + u))) wz → Hid (Dep q (l.take (k1 + 1)) (ds.set s (d + u)) ∧ ce = ((ds.set s (d + u)).countP pos : Nat) ∧ DRow wz g q (ds.set s (d + u)) ∧ OwnR g (g + 1) w2 wz ap cc acc ∧ ∀ j, k ≤ j → j < k1 + 1 → (l.getD j mk0).pos = x) := fun wz hz => ⟨HDS.out, Hce.out.symm, HD6.out.of_block (hz.block g HD6.out.lt), HO6.out.later hz, HPX.out⟩
          have HFF := hide HF
          clear HF
          by_cases hp1 : 0 < d
          · by_cases hp2 : 0 < d + u
            · have hce : ce = ci - 1 + 1 := by rw [if_pos hp1, if_pos hp2] at hcs; omega
              have hw1 : IntKind.i64.wrap (ci - 1) = ci - 1 := by rw [IntKind.wrap_i64]; omega
              have hw2 : IntKind.i64.wrap (ci - 1 + 1) = ci - 1 + 1 := by rw [IntKind.wrap_i64]; omega
              clear hcs hdb hstep
              rw [hce] at HFF
              go_wp2_with fail
              go_region
              go_wp2_with fail
              go_roundw
              case rel => exact ⟨k1 + 1, ci - 1 + 1, ds.set s (d + u), by omega, by omega, by first | rfl | simp, by go_num, HFF.out _ (below_drew1 _)⟩
              case measure => simp [intOf]; omega
            · have hce : ce = ci - 1 := by rw [if_pos hp1, if_neg hp2] at hcs; omega
              have hw1 : IntKind.i64.wrap (ci - 1) = ci - 1 := by rw [IntKind.wrap_i64]; omega
              clear hcs hdb hstep
              rw [hce] at HFF
              go_wp2_with fail
              go_region
              go_wp2_with fail
              go_roundw
              case rel => exact ⟨k1 + 1, ci - 1, ds.set s (d + u), by omega, by omega, by first | rfl | simp, by go_num, HFF.out _ (below_drew1 _)⟩
              case measure => simp [intOf]; omega
          · by_cases hp2 : 0 < d + u
            · have hce : ce = ci + 1 := by rw [if_neg hp1, if_pos hp2] at hcs; omega
              have hw2 : IntKind.i64.wrap (ci + 1) = ci + 1 := by rw [IntKind.wrap_i64]; omega
              clear hcs hdb hstep
              rw [hce] at HFF
              go_wp2_with fail
              go_region
              go_wp2_with fail
              go_roundw
              case rel => exact ⟨k1 + 1, ci + 1, ds.set s (d + u), by omega, by omega, by first | rfl | simp, by go_num, HFF.out _ (below_drew1 _)⟩
              case measure => simp [intOf]; omega
            · have hce : ce = ci := by rw [if_neg hp1, if_neg hp2] at hcs; omega
              clear hcs hdb hstep
              rw [hce] at HFF
              go_wp2_with fail
              go_region
              go_wp2_with fail
              go_roundw
              case rel => exact ⟨k1 + 1, ci, ds.set s (d + u), by omega, by omega, by first | rfl | simp, by go_num, HFF.out _ (below_drew1 _)⟩
              case measure => simp [intOf]; omega
        · have hkl : k < l.length := by rw [HN.out]; exact hlt
          have HG : Hid (Grp l k k1 x) := grp HR.out hkl Hx.out hkk (by rw [HN.out]; exact hk1) H.out.2.2.2.2 (fun h e => hin ⟨by rw [HN.out] at h; exact h, e⟩)
          have hkk1 : k < k1 := Nat.lt_of_le_of_ne hkk (fun e => hin ⟨by omega, by rw [← e]; exact Hx.out⟩)
          have HKB : Hid (kpB how q (ds.countP pos) (ds.getD 0 0) = true ↔ kp how q (dp (l.take k1))) := kpB_iff hq0 H.out.1.1 H.out.1.2
          have cd := World.rowIs.cell H.out.2.2.1 hq0
          obtain ⟨d0, Hd0⟩ : ∃ d0, Hid (ds.getD 0 0 = d0) := ⟨_, rfl⟩
          rw [Hd0.out] at cd HKB
          obtain ⟨cn, Hcn⟩ : ∃ cn, Hid (ds.countP pos = cn) := ⟨_, rfl⟩
          rw [Hcn.out] at HKB
          have hcn : ci = (cn : Int) := by rw [H.out.2.1, Hcn.out]
          subst hcn
          have hq1 : (0 : Int) < (q : Int) := by omega
          by_cases hk1l : k1 < n1
          · obtain ⟨gl', hgl, A0⟩ := HS5.out.at k1 hk1l
            cases hgl
            have c0 := A0.c0
            obtain ⟨y, Hy⟩ : ∃ y, Hid ((l.getD k1 mk0).pos = y) := ⟨_, rfl⟩
            rw [Hy.out] at c0
            have hyx : (y == x) = false := by simpa using fun e => hin ⟨hk1l, by rw [Hy.out]; exact e⟩
            clear A0 hin
            obtain ⟨kb, Hkb⟩ : ∃ kb, Hid ((if how = 2 then decide (cn = q) else decide (0 < cn)) = kb) := ⟨_, rfl⟩
            go_upto_if 80 with fail
            go_cut [12] from 21 to 136 (fun s wx => s = .bool kb ∧ wx = w5)
            case first =>
              by_cases h2 : how = 2
              · subst h2
                by_cases hcq2 : cn = q
                · subst hcq2
                  go_wp2_with fail
                  go_meet
                  case rel => exact ⟨by first | (rw [← Hkb.out]; done) | (rw [← Hkb.out]; simp), rfl⟩
                · have hcq3 : ((cn : Int) == (q : Int)) = false := by first | (simp; done) | (simp; omega)
                  go_wp2_with fail
                  go_meet
                  case rel => exact ⟨by rw [← Hkb.out]; simp [hcq2], rfl⟩
              · have h2' : (how == 2) = false := by simpa using h2
                go_wp2_with fail
                go_meet
                case rel => exact ⟨by rw [← Hkb.out, if_neg h2], rfl⟩
            case rest =>
              obtain ⟨rfl, rfl⟩ := hcut
              rename World => w6
              go_upto_if 86 with fail
              go_cut [12] from 21 to 136 (fun s wx => s = .bool (kpB how q cn d0) ∧ wx = w6)
              case first =>
                by_cases h3 : how = 3
                · subst h3
                  by_cases h1 : cn = 1
                  · subst h1
                    have HK : Hid (kpB 3 q 1 d0 = decide (0 < d0)) := by show _ = _; simp [kpB]
                    go_wp2_with fail
                    go_meet
                    case rel => exact ⟨by rw [HK.out], rfl⟩
                  · have HK : Hid (kpB 3 q cn d0 = false) := by show _ = _; simp [kpB, h1]
                    have hn1 : ((cn : Int) == 1) = false := by first | (simp; done) | (simp; omega)
                    go_wp2_with fail
                    go_meet
                    case rel => exact ⟨by rw [HK.out], rfl⟩
                · have HK : Hid (kpB how q cn d0 = kb) := by show _ = _; rw [← Hkb.out]; simp [kpB, h3]
                  have h3' : (how == 3) = false := by simpa using h3
                  go_wp2_with fail
                  go_meet
                  case rel => exact ⟨by rw [HK.out], rfl⟩
              case rest =>
                obtain ⟨rfl, rfl⟩ := hcut
                rename World => w7
                cases hkb : kpB how q cn d0 with
                | false =>
                  have HNK : Hid (¬ kp how q (dp (l.take k1))) := fun e => by have := HKB.out.2 e; rw [hkb] at this; cases this
                  have HFN := hide (HI.out.skip' hkk HG.out HNK.out)
                  go_wp2_with fail
                  go_roundw
                  case rel => exact ⟨k1, (cn : Int), ap, cc, acc, ds, by omega, rfl, rfl, rfl, HFN.out, H.out.1, H.out.2.1, H.out.2.2.1, H.out.2.2.2.1⟩
                  case measure => simp [intOf]; omega
                | true =>
                  have HYK := hide (HKB.out.1 hkb)
                  have hk1n : k1 < n1 := hk1l
                  have hkl1 : k1 < l.length := by rw [HN.out]; exact hk1n
                  have hyb := (HOK.out _ (by rw [getD_of_lt hkl1]; exact List.getElem_mem _ : l.getD k1 mk0 ∈ l)).2.1
                  rw [Hy.out] at hyb
                  have hxy : x < y := by rw [← Hy.out]; exact HG.out.h2 _ (drop_mem_at (Nat.le_refl _) hkl1)
                  have HFN := hide (HI.out.keep' HR.out hkk hkl1 HG.out Hy.out hx1 hyb HYK.out)
                  have hwy : IntKind.i64.wrap (y - 1) = y - 1 := by rw [IntKind.wrap_i64]; omega
                  have hwx : IntKind.i64.wrap (x - 1) = x - 1 := by rw [IntKind.wrap_i64]; omega
                  have HO7 := hide H.out.2.2.2.1
                  clear hkl1
                  rcases List.eq_nil_or_concat acc with e | ⟨i, r, e⟩
                  · subst e
                    rw [lay_nil] at HFN
                    go_wp2_with (at_builtin; refine HO7.out.append3 ⟨x, y - 1⟩ _ rfl (by simp) rfl (.tmp 131) (.tmp 135) rfl 0 rfl rfl rfl ?_; intro g8 c8 w8 O8 K8; have HD8 := hide (DRow.of_block H.out.2.2.1 (K8 g (by omega))); clear K8)
                    go_roundw
                    case rel => exact ⟨k1, (cn : Int), some ⟨g8, 0, none⟩, c8, [] ++ [⟨x, y - 1⟩], ds, by omega, rfl, by simp, rfl, HFN.out, H.out.1, H.out.2.1, HD8.out, O8⟩
                    case measure => simp [intOf]; omega
                  · rw [List.concat_eq_append] at e
                    subst e
                    obtain ⟨rl, rh⟩ := r
                    obtain ⟨ga, rfl, ce⟩ := HO7.out.ends (by omega)
                    have hob := out_bound HI.out
                    simp only at ce hob
                    obtain ⟨j, hj⟩ : ∃ j, i.length = j := ⟨_, rfl⟩
                    obtain ⟨m, hlj⟩ : ∃ m, (i ++ [(⟨rl, rh⟩ : Rn)]).length = m := ⟨_, rfl⟩
                    have hjm : j + 1 = m := by rw [← hlj]; simp [hj]
                    have HJM := hide hjm
                    rw [hlj] at hal ⊢
                    rw [hj] at ce
                    have hm1 : IntKind.i64.wrap ((m : Int) - 1) = (j : Int) := by rw [IntKind.wrap_i64]; omega
                    have hjj : j < m := by omega
                    have hm0 : (0 : Int) < (m : Int) := by omega
                    clear hjm
                    by_cases hup : rh = x - 1
                    · rw [lay_up i ⟨rl, rh⟩ x (y - 1) hup] at HFN
                      have hup' : (rh == x - 1) = true := by simpa using hup
                      obtain ⟨O8, fz, hbg⟩ := HO7.out.setEnd (y - 1)
                      rw [hj] at O8 fz
                      have HO8 := hide O8
                      have HD8 : Hid (DRow (w7.setCell ⟨ga, j * 2 + 1, none⟩ (.int .i64 (y - 1))) g q ds) := DRow.of_block H.out.2.2.1 (Go.Deep.blk_setCell_other _ _ _ _ (by show g ≠ ga; omega))
                      clear O8 hup
                      go_wp2_with fail
                      go_roundw
                      case rel => exact ⟨k1, (cn : Int), some ⟨ga, 0, none⟩, cc, i ++ [⟨rl, y - 1⟩], ds, by omega, rfl, by rw [← hlj]; simp, rfl, HFN.out, H.out.1, H.out.2.1, HD8.out, HO8.out⟩
                      case measure => simp [intOf]; omega
                    · rw [lay_new i ⟨rl, rh⟩ x (y - 1) hup] at HFN
                      have hup' : (rh == x - 1) = false := by simpa using hup
                      clear hup
                      go_wp2_with (at_builtin; refine HO7.out.append3 ⟨x, y - 1⟩ _ rfl (by rw [hlj]; omega) rfl (.tmp 131) (.tmp 135) rfl m hlj rfl rfl ?_; intro g8 c8 w8 O8 K8; have HD8 := hide (DRow.of_block H.out.2.2.1 (K8 g (by omega))); clear K8)
                      go_roundw
                      case rel => exact ⟨k1, (cn : Int), some ⟨g8, 0, none⟩, c8, i ++ [⟨rl, rh⟩] ++ [⟨x, y - 1⟩], ds, by omega, rfl, by rw [List.length_append, hlj]; simp, rfl, HFN.out, H.out.1, H.out.2.1, HD8.out, O8⟩
                      case measure => simp [intOf]; omega
          · obtain rfl : k1 = n1 := by omega
            clear hin
            obtain ⟨kb, Hkb⟩ : ∃ kb, Hid ((if how = 2 then decide (cn = q) else decide (0 < cn)) = kb) := ⟨_, rfl⟩
            go_upto_if 80 with fail
            go_cut [12] from 21 to 136 (fun s wx => s = .bool kb ∧ wx = w5)
            case first =>
              by_cases h2 : how = 2
              · subst h2
                by_cases hcq2 : cn = q
                · subst hcq2
                  go_wp2_with fail
                  go_meet
                  case rel => exact ⟨by first | (rw [← Hkb.out]; done) | (rw [← Hkb.out]; simp), rfl⟩
                · have hcq3 : ((cn : Int) == (q : Int)) = false := by first | (simp; done) | (simp; omega)
                  go_wp2_with fail
                  go_meet
                  case rel => exact ⟨by rw [← Hkb.out]; simp [hcq2], rfl⟩
              · have h2' : (how == 2) = false := by simpa using h2
                go_wp2_with fail
                go_meet
                case rel => exact ⟨by rw [← Hkb.out, if_neg h2], rfl⟩
            case rest =>
              obtain ⟨rfl, rfl⟩ := hcut
              rename World => w6
              go_upto_if 86 with fail
              go_cut [12] from 21 to 136 (fun s wx => s = .bool (kpB how q cn d0) ∧ wx = w6)
              case first =>
                by_cases h3 : how = 3
                · subst h3
                  by_cases h1 : cn = 1
                  · subst h1
                    have HK : Hid (kpB 3 q 1 d0 = decide (0 < d0)) := by show _ = _; simp [kpB]
                    go_wp2_with fail
                    go_meet
                    case rel => exact ⟨by rw [HK.out], rfl⟩
                  · have HK : Hid (kpB 3 q cn d0 = false) := by show _ = _; simp [kpB, h1]
                    have hn1 : ((cn : Int) == 1) = false := by first | (simp; done) | (simp; omega)
                    go_wp2_with fail
                    go_meet
                    case rel => exact ⟨by rw [HK.out], rfl⟩
                · have HK : Hid (kpB how q cn d0 = kb) := by show _ = _; rw [← Hkb.out]; simp [kpB, h3]
                  have h3' : (how == 3) = false := by simpa using h3
                  go_wp2_with fail
                  go_meet
                  case rel => exact ⟨by rw [HK.out], rfl⟩
              case rest =>
                obtain ⟨rfl, rfl⟩ := hcut
                rename World => w7
                cases hkb : kpB how q cn d0 with
                | false =>
                  have HNK : Hid (¬ kp how q (dp (l.take k1))) := fun e => by have := HKB.out.2 e; rw [hkb] at this; cases this
                  have HFN := hide (HI.out.skip' hkk HG.out HNK.out)
                  go_wp2_with fail
                  go_roundw
                  case rel => exact ⟨k1, (cn : Int), ap, cc, acc, ds, by omega, rfl, rfl, rfl, HFN.out, H.out.1, H.out.2.1, H.out.2.2.1, H.out.2.2.2.1⟩
                  case measure => simp [intOf]; omega
                | true =>
                  have HYK := HKB.out.1 hkb
                  rw [← HN.out, ← HQ.out] at HYK
                  exact absurd HYK (end_zero (by rw [HQ.out]; exact hq0) (by rw [HQ.out]; exact HP.out))
    · obtain rfl : k = n1 := by omega
      have HD := hide (SwInv.done (how := how) (X := lsts X) (l := l) (out := acc) (by rw [HQ.out]; exact hq0) (by rw [HQ.out]; exact HP.out) (by rw [HQ.out, HN.out]; exact H.out.1))
      obtain ⟨S4, F4⟩ := H.out.2.2.2.2.src (by omega)
      have HF : Hid (GivesR w w4 (.returned (.slice ap acc.length cc)) (fun R => form 1 R ∧ ∀ n, mem R n ↔ Kept how (lsts X) n)) := ⟨ap, _, cc, acc, rfl, S4, HB2.out.trans ((by have := H.out.2.2.2.2.below; rw [← Hg.out] at this; exact this : Below w2.heap.size w2 w4).mono HB2.out.size), HD.out⟩
      clear S4 F4
      go_wp2_with fail
      go_ret
      exact HF.out
end Go.Proofs.YtpolleieajgheaaDoor
