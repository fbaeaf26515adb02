/- Rows of values of one cell; the reference's Waiting; the law's sameInts. -/
import Derived.Test.YthagachlilnjpaaXRg
namespace Go.Proofs.Ythagachlilnjpaa
open Go.RowKit Go.Maps
variable {w w' w2 : World} {g r n c : Nat} {ao : Option Addr} {Q : List Mde}
attribute [local go_sem ↓] ldD_eq stD_eq
attribute [local go_sem] DC_size

theorem own_keep {T : TypeId} {v : Value} {n : Nat} {L : List Value} (h : w.ownsRow 0 T 1 v n L) (hk : ∀ k, v.ownBlock = some k → w'.heap[k]? = w.heap[k]?) : w'.ownsRow 0 T 1 v n L := by
  refine ⟨h.1, ?_⟩
  rcases h.2 with h0 | ⟨q, cap2, cur, hv, hq, hh, r⟩
  · exact Or.inl h0
  · subst hv
    exact Or.inr ⟨q, cap2, cur, rfl, hq, (hk q rfl).trans hh, r⟩
theorem own_lt {T : TypeId} {v : Value} {n : Nat} {L : List Value} (h : w.ownsRow 0 T 1 v n L) (k : Nat) (hk : v.ownBlock = some k) : k < w.heap.size := by
  rcases h.2 with ⟨h0, _⟩ | ⟨q, cap2, cur, hv, hq, hh, r⟩
  · subst h0; cases hk
  · subst hv
    have : q = k := Option.some.inj hk
    subst this
    exact (Array.getElem?_eq_some_iff.1 hh).1
theorem own_form {T : TypeId} {n : Nat} {v : Value} {L : List Value} (h : w.ownsRow 0 T 1 v n L) : ∃ bo c, v = .slice bo n c := by
  rcases h.2 with ⟨h0, h00⟩ | ⟨q, cap2, cur, hv, r⟩
  · exact ⟨none, 0, by rw [h0, h00]⟩
  · exact ⟨_, _, hv⟩
/-- a row of values of one cell -/
abbrev RW (w : World) (T : TypeId) (ao : Option Addr) (n c : Nat) (L : List Value) : Prop := w.ownsRow 0 T 1 (.slice ao n c) n L
theorem RW.at {T : TypeId} {ao : Option Addr} {n c : Nat} {L : List Value} (h : RW w T ao n c L) (j : Nat) (hj : j < n) : ∃ b, ao = some ⟨b, 0, none⟩ ∧ w.cell? ⟨b, j, none⟩ = L[j]? ∧ w.frozen? ⟨b, j, none⟩ = false := by
  rcases h.2 with ⟨h0, h00⟩ | ⟨q, cap2, cur, hv, hq, hh, r⟩
  · omega
  · simp only [Value.slice.injEq, true_and] at hv
    obtain ⟨rfl, rfl⟩ := hv
    exact ⟨q, rfl, h.cellAt j (by omega), by simp [World.frozen?, hh]⟩
theorem infoI : (Try.prog.info? 3).map (fun i => (i.zero, i.size, i.bytes)) = some (some (.int .i64 0), 1, 8) := by kernel_rfl
abbrev ints (L : List Int) : List Value := L.map (Value.int .i64)
theorem appI {ao : Option Addr} {n c : Nat} {L : List Value} {x : Int} (h : RW w 3 ao n c L) (hb : n + 1 ≤ 5000000000000)
    {ops : Array Oper} {rest : List Oper} {o : Oper} {a : Act} {Q : Exit → Act → World → Prop} (hgd : o.guard = none) (sl y : Operand) (ho : o.op = .call { callee := .builtin .append, args := #[sl, y], argTypes := #[50, 50] })
    (hs : a.eval sl = .slice ao n c) (hy : a.eval y = .slice (some ⟨w.heap.size, 0, none⟩) 1 1)
    (hK : ∀ (bo : Option Addr) (c2 : Nat) (w2 : World), RW w2 3 bo (n + 1) c2 (L ++ [.int .i64 x]) → Ap w w2 ao bo → wpList Try.prog ops Q rest (a.put o.dst (.slice bo (n + 1) c2)) w2) :
    wpList Try.prog ops Q (o :: rest) a (w.alloc (.cells #[.int .i64 x] 3)) := by
  obtain ⟨i0, hi, hz0, hz1, hz2⟩ := info_parts infoI
  refine wpList_append_own_at _ hgd sl y 50 ho 0 3 i0 (.int .i64 0) 1 8 Try.underlying50 hi hz0 hz1 hz2 rfl (by decide) _ n L hs (own_keep h fun k hk => Below.heap_alloc w _ k (own_lt h k hk)) ⟨w.heap.size, 0, none⟩ 1 1 [.int .i64 x] hy rfl (fun j u hj => ?_) (by simp [Value.oneCell']) (by unfold maxLen; omega) (by omega) (Nat.zero_le _) ?_
  · match j, hj with
    | 0, hj => cases hj; exact cell_one_new w _ _ 0 _ rfl
  · intro v' w2 hown hgrow _ hat
    obtain ⟨bo, c2, rfl⟩ := own_form hown
    rw [ownBlock_blk] at hgrow
    rw [ownBlock_blk, ownBlock_blk] at hat
    refine hK bo c2 w2 hown ((Ap.new w _ ao).trans ⟨hgrow, ?_⟩)
    rcases hat with e | e
    · exact Or.inl e
    · exact Or.inr ⟨_, e, Nat.le_refl _⟩
/-- the numbers of which p holds -/
def wf (p : Nat → Bool) (i : Nat) : List Int := ((List.range i).filter p).map fun j : Nat => (j : Int) + 1
theorem wf_succ (p : Nat → Bool) (i : Nat) : wf p (i + 1) = wf p i ++ (if p i = true then [(i : Int) + 1] else []) := by
  unfold wf
  rw [List.range_succ, List.filter_append, List.map_append]
  congr 1
  by_cases h : p i = true
  · rw [if_pos h]; simp [h]
  · rw [if_neg h]; simp [h]
theorem wf_len (p : Nat → Bool) (i : Nat) : (wf p i).length ≤ i := by
  unfold wf
  rw [List.length_map]
  exact Nat.le_trans (List.length_filter_le _ _) (by simp)
def live (Q : List Mde) (j : Nat) : Bool := !(Q.getD j d0).spent
set_option maxRecDepth 100000 in
theorem rwait_any (P : Rp w r ao n c Q) (hn : n ≤ 3518437208883) : Calls Try.prog 26 #[ptr r] w fun e w' => ∃ bo m cc, e = .returned (.slice bo m cc) ∧ RW w' 3 bo m cc (ints (wf (live Q) n)) ∧ m = (wf (live Q) n).length ∧ Below w.heap.size w w' := by
  have HP := hide P
  have HN := hide hn
  clear P hn
  go_enter Try.func26, Try.ntmps26
  go_wp2_with fail
  go_loopw [3, 4] (fun v i wr => ∃ (k m cc : Nat) (bo : Option Addr), k ≤ n ∧ i = .int .i64 k ∧ v = .slice bo m cc ∧ Hid (RW wr 3 bo m cc (ints (wf (live Q) k)) ∧ m = (wf (live Q) k).length ∧ Below w.heap.size w wr ∧ ∀ k, blk bo = some k → w.heap.size ≤ k)) (fun _ i _ => n - (intOf i).toNat)
  case atStart => exact ⟨0, 0, 0, none, Nat.zero_le _, rfl, rfl, World.ownsRow_nil _ _ _ _, rfl, Below.refl _ _, fun k e => by cases e⟩
  case round =>
    obtain ⟨k, m, cc, bo, hk, rfl, rfl, HI⟩ := hrel
    have P1 := HP.out.below HI.out.2.2.1
    have x0 := P1.c0
    by_cases hlt : k < n
    · have HK1 : Hid (wrap64 ((k : Int) + 1) = ((k + 1 : Nat) : Int)) := by show _ = _; have := HN.out; rw [w64 (by omega) (by omega)]; rfl
      have HLT := hide hlt
      obtain ⟨b, rfl, D, -⟩ := P1.row.at k hlt
      have d3 := D.c3
      rw [Addr.add_lit] at d3
      cases hsp : (Q.getD k d0).spent with
      | true =>
        rw [hsp] at d3
        have HW : Hid (wf (live Q) (k + 1) = wf (live Q) k) := by show _ = _; rw [wf_succ, if_neg (by unfold live; rw [hsp]; decide), List.append_nil]
        clear P1 D hsp
        go_wp2_with fail
        go_roundw
        case rel => exact ⟨k + 1, m, cc, bo, HLT.out, by rw [HK1.out], rfl, by rw [HW.out]; exact HI.out⟩
        case measure => rw [HK1.out]; have := HLT.out; simp [intOf]; omega
      | false =>
        rw [hsp] at d3
        have HW : Hid (wf (live Q) (k + 1) = wf (live Q) k ++ [(k : Int) + 1]) := by show _ = _; rw [wf_succ, if_pos (by unfold live; rw [hsp]; rfl)]
        have HM : Hid (m + 1 ≤ 5000000000000) := by show _ ≤ _; have := HI.out.2.1; have := wf_len (live Q) k; have := HN.out; have := HLT.out; omega
        clear P1 D hsp
        go_wp2_with (at_builtin; refine appI (x := wrap64 ((k : Int) + 1)) HI.out.1 HM.out rfl (.tmp 23) (.tmp 26) rfl rfl rfl ?_; intro b2 c2 w2 R2 A2; have HR2 := hide R2; have HA2 := hide A2; clear R2 A2)
        have HE : Hid (RW w2 3 b2 (m + 1) c2 (ints (wf (live Q) (k + 1))) ∧ m + 1 = (wf (live Q) (k + 1)).length ∧ Below w.heap.size w w2 ∧ ∀ k, blk b2 = some k → w.heap.size ≤ k) := by
          have hz := HI.out.2.2.1.size
          refine ⟨?_, ?_, ?_, fun i e => ?_⟩
          · rw [HW.out]
            have h2 := HR2.out
            rw [HK1.out] at h2
            have e1 : ints (wf (live Q) k ++ [(k : Int) + 1]) = ints (wf (live Q) k) ++ [.int .i64 ((k + 1 : Nat) : Int)] := by simp
            rw [e1]
            exact h2
          · rw [HW.out, List.length_append, ← HI.out.2.1]; rfl
          · exact HI.out.2.2.1.grown HA2.out.grown hz (fun i e => HI.out.2.2.2 i e)
          · rcases HA2.out.lies with x | ⟨j, x, hj⟩
            · rw [x] at e; exact HI.out.2.2.2 i e
            · rw [x] at e
              have := Option.some.inj e
              omega
        go_wp2_with fail
        go_roundw
        case rel => exact ⟨k + 1, m + 1, c2, b2, HLT.out, by rw [HK1.out], rfl, HE⟩
        case measure => rw [HK1.out]; have := HLT.out; simp [intOf]; omega
    · obtain rfl : k = n := by omega
      clear P1
      go_wp2_with fail
      go_ret
      exact ⟨_, _, _, rfl, HI.out.1, HI.out.2.1, HI.out.2.2.1⟩
set_option maxRecDepth 100000 in
theorem sameInts_any (a1 a2 : Option Addr) (m k1 k2 : Nat) (L : List Int) (w : World) (R1 : RW w 3 a1 m k1 (ints L)) (R2 : RW w 3 a2 m k2 (ints L)) (hm : m ≤ 3518437208883) : Calls Try.prog 25 #[.slice a1 m k1, .slice a2 m k2] w fun e w' => e = .returned (.bool true) ∧ Below w.heap.size w w' := by
  have H1 := hide R1
  have H2 := hide R2
  have HM := hide hm
  clear R1 R2 hm
  go_enter Try.func25, Try.ntmps25
  go_wp2_with fail
  go_loopw [5] (fun i wr => ∃ k : Nat, k ≤ m ∧ i = .int .i64 k ∧ Hid (Below w.heap.size w wr)) (fun i _ => m - (intOf i).toNat)
  case atStart => exact ⟨0, Nat.zero_le _, rfl, Below.refl _ _⟩
  case round =>
    obtain ⟨k, hk, rfl, HB⟩ := hrel
    by_cases hlt : k < m
    · have HK1 : Hid (wrap64 ((k : Int) + 1) = ((k + 1 : Nat) : Int)) := by show _ = _; have := HM.out; rw [w64 (by omega) (by omega)]; rfl
      have HLT := hide hlt
      have q1 := own_keep H1.out (w' := wr) fun i e => HB.out.block i (own_lt H1.out i e)
      have q2 := own_keep H2.out (w' := wr) fun i e => HB.out.block i (own_lt H2.out i e)
      obtain ⟨b1, rfl, y1, -⟩ := RW.at q1 k hlt
      obtain ⟨b2, rfl, y2, -⟩ := RW.at q2 k hlt
      have hl : k < L.length := by have := H1.out.1; rw [List.length_map] at this; omega
      obtain ⟨z, hz⟩ : ∃ z, L[k]? = some z := ⟨_, List.getElem?_eq_getElem hl⟩
      rw [List.getElem?_map, hz, Option.map_some] at y1 y2
      have HB2 : Hid (∀ nq, Below w.heap.size w (wr.drewN nq)) := fun nq => HB.out.trans ((below_drewN wr nq).mono HB.out.size)
      clear q1 q2 hl hz HB
      go_wp2_with fail
      go_quiet (fail)
      go_wp2_with fail
      go_roundw
      case rel => exact ⟨k + 1, HLT.out, by rw [HK1.out], HB2.out _⟩
      case measure => rw [HK1.out]; have := HLT.out; simp [intOf]; omega
    · go_wp2_with fail
      go_ret
      exact ⟨rfl, HB.out⟩
end Go.Proofs.Ythagachlilnjpaa
