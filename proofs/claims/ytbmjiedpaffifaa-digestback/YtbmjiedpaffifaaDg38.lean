/- FPp UGb -/
import Derived.Test.YtbmjiedpaffifaaDg37
import Derived.Test.YtbmjiedpaffifaaDg21
namespace Go.Proofs.Ytbmjiedpaffifaa
open Go.RowKit
attribute [local go_sem ↓] ldP_eq stP_eq
attribute [local go_sem] zero_PC cells_PV PC_size

theorem checkPast_any (p : Pv) (w : World) (hS : PSrc w p) : Calls Try.prog 75 #[PV p] w fun e w' => ∃ x, e = .returned (.int .i64 x) ∧ ((x = 1 ∧ ¬ InForm p.P) ∨ (x = 0 ∧ InForm p.P)) ∧ Below w.heap.size w w' := by
  have b1 := below_new w (.cells (PC p) 25)
  have l1 := run_ldP (pbox_new w p).at
  have HB := hide b1
  have HS := hide (hS.below b1)
  clear hS b1
  go_enter Try.func75, Try.ntmps75
  go_wp2_with fail
  refine (isNormP_any p _ HS.out).mono ?_
  rintro e w2 ⟨b, rfl, hb, b2⟩
  have HB2 := hide (HB.out.trans (b2.mono HB.out.size))
  clear b2 l1
  cases b with
  | false =>
    have HN : Hid (¬ InForm p.P) := fun h => by have := hb.out.2 h; cases this
    clear hb
    go_wp2_with fail
    go_ret
    exact ⟨1, rfl, .inl ⟨rfl, HN.out⟩, HB2.out⟩
  | true =>
    have HN : Hid (InForm p.P) := hb.out.1 rfl
    clear hb
    go_wp2_with fail
    go_ret
    exact ⟨0, rfl, .inr ⟨rfl, HN.out⟩, HB2.out⟩
/-- what PutPast answers -/
def PutA (w w' : World) (e : Ending) (P : Pst) : Prop :=
  (¬ InForm P ∧ e = .returned (.tuple #[.slice none 0 0, .int .i64 1]) ∧ Below w.heap.size w w') ∨ (InForm P ∧ ∃ bo cc, e = .returned (.tuple #[.slice bo (pastB P).length cc, .int .i64 0]) ∧ U.BR w' bo (pastB P).length cc (pastB P) ∧ U.NewB w w' bo)
theorem pw_new (w0 : World) : PW w0 (w0.alloc (.cells #[.slice none 0 0, .bool false] 152)) w0.heap.size none 0 0 [] [] := ⟨U.wk_new w0, fun x hx => by cases hx⟩
theorem pastB_len {P : Pst} (h : InForm P) : (pastB P).length ≤ 200000000000 := by
  have h1 := inf_len h
  have h2 := (canon_len (canon_iff.2 h)).1
  have h3 := vecB_len (V := P.vec) (inf_bd h)
  have h4 := cloudB_max P.cloud (trl P.vec) 0 (Int.le_refl 0) (inf_trl h) (trl_pos (inf_bd h))
  have h5 := U.numB_len 9 P.vec.length (by omega)
  have h6 := U.numB_len 9 P.cloud.length (by omega)
  unfold pastB
  simp only [List.length_append]
  omega
set_option maxRecDepth 100000 in
set_option maxHeartbeats 1600000 in
theorem packPut_any (p : Pv) (w : World) (hS : PSrc w p) : Calls Try.prog 74 #[PV p, .func (.func 75) #[] #[], .func (.func 76) #[] #[]] w fun e w' => PutA w w' e p.P := by
  have b1 := below_new w (.cells (PC p) 25)
  have HX := hide (pbox_new w p)
  have HB := hide b1
  have HS := hide (hS.below b1)
  clear hS b1
  obtain ⟨wk, hwk⟩ : ∃ wk, w.alloc (.cells (PC p) 25) = wk := ⟨_, rfl⟩
  obtain ⟨G, hG⟩ : ∃ G, w.heap.size = G := ⟨_, rfl⟩
  rw [hwk] at HX HB HS
  rw [hG] at HX
  have l1 := run_ldP HX.out.at
  go_enter Try.func74, Try.ntmps74
  go_wp2_with fail
  clear hwk hG
  refine (checkPast_any p _ HS.out).mono ?_
  rintro e w2 ⟨x, rfl, hx, b2⟩
  have HB2 := hide (HB.out.trans (b2.mono HB.out.size))
  have HX2 := hide (HX.out.below b2)
  have HS2 := hide (HS.out.below b2)
  clear b2 l1 HX HB HS
  rcases hx with ⟨rfl, hn⟩ | ⟨rfl, hy⟩
  · have HN := hide hn
    clear hn
    go_wp2_with fail
    go_ret2
    exact .inl ⟨HN.out, rfl, HB2.out⟩
  · have HY := hide hy
    clear hy
    go_wp2_with fail
    refine (U.new_any _).mono ?_
    rintro e w3 ⟨rfl, rfl⟩
    have P3 := pw_new w2
    obtain ⟨gw, hgw⟩ : ∃ gw, w2.heap.size = gw := ⟨_, rfl⟩
    obtain ⟨w3, hw3⟩ : ∃ w3, w2.alloc (.cells #[.slice none 0 0, .bool false] 152) = w3 := ⟨_, rfl⟩
    rw [hw3, hgw] at P3
    have P4 := P3.add (.cells #[U.ptr gw] 116)
    obtain ⟨b8, hb8⟩ : ∃ b8, w3.heap.size = b8 := ⟨_, rfl⟩
    obtain ⟨w4, hw4⟩ : ∃ w4, w3.alloc (.cells #[U.ptr gw] 116) = w4 := ⟨_, rfl⟩
    rw [hw4, hb8] at P4
    have HP4 := hide P4
    have c4 := box_cell (P4.keep (b8, .cells #[U.ptr gw] 116) (by simp)).1
    have l4 := run_ldP (HX2.out.below P4.wk.bel).at
    rw [hgw, hw3]
    clear P3 P4
    go_wp2_with fail
    clear hw3 hw4 hgw hb8
    refine (wpast_any HP4.out p HS2.out HY.out (by omega)).mono ?_
    rintro e w5 ⟨rfl, bo, m, cc, P5⟩
    rw [List.nil_append] at P5
    have hm := P5.wk.len
    have HP5 := hide P5
    have c5 := box_cell (P5.keep (b8, .cells #[U.ptr gw] 116) (by simp)).1
    have HM : Hid (m ≤ 200000000000) := by show _ ≤ _; rw [← hm]; exact pastB_len HY.out
    have HML := hide hm
    clear P5 c4 l4 hm
    go_wp2_with fail
    refine (U.done_ok bo m cc _ _ HP5.out.wk.w (by have := HM.out; omega)).mono ?_
    rintro e w6 ⟨bo2, cc2, rfl, hr6, hn6⟩
    have HF : Hid (PutA w w6 (.returned (.tuple #[.slice bo2 m cc2, .int .i64 0])) p.P) := by
      have hb := HB2.out.trans ((HP5.out.wk.bel.trans (hn6.1.mono HP5.out.wk.bel.size)).mono HB2.out.size)
      refine .inr ⟨HY.out, bo2, cc2, by rw [HML.out], by rw [HML.out]; exact hr6, hb, fun k e => ?_⟩
      have h1 := hn6.2 k e
      have h2 := HP5.out.wk.bel.size
      have h3 := HB2.out.size
      omega
    clear hr6 hn6 c5
    go_wp2_with fail
    go_ret2
    exact HF.out
theorem PutA.pre {w wk w' : World} {e : Ending} {P : Pst} (b : Below w.heap.size w wk) (h : PutA wk w' e P) : PutA w w' e P := by
  rcases h with ⟨h1, h2, h3⟩ | ⟨h1, bo, cc, h2, h3, h4⟩
  · exact .inl ⟨h1, h2, b.trans (h3.mono b.size)⟩
  · exact .inr ⟨h1, bo, cc, h2, h3, b.trans (h4.1.mono b.size), fun k e => Nat.le_trans b.size (h4.2 k e)⟩
theorem putPast_any (p : Pv) (w : World) (hS : PSrc w p) : Calls Try.prog 48 #[PV p] w fun e w' => PutA w w' e p.P := by
  have b1 := below_new w (.cells (PC p) 25)
  have l1 := run_ldP (pbox_new w p).at
  have HB := hide b1
  have HS := hide (hS.below b1)
  clear hS b1
  go_enter Try.func48, Try.ntmps48
  go_wp2_with fail
  refine (packPut_any p _ HS.out).mono ?_
  rintro e w2 h
  have HF := hide (h.pre HB.out)
  rcases h with ⟨h1, rfl, h3⟩ | ⟨h1, bo, cc, rfl, h3, h4⟩
  · clear h1 h3 l1
    go_wp2_with fail
    go_ret2
    exact HF.out
  · clear h1 h3 h4 l1
    go_wp2_with fail
    go_ret2
    exact HF.out
end Go.Proofs.Ytbmjiedpaffifaa
namespace Go.Proofs.Ytbmjiedpaffifaa.U
open Go.RowKit
variable {w w' w2 : World} {g : Nat}

theorem own_keep {T : TypeId} {v : Value} {n : Nat} {L : List Value} (h : w.ownsRow 0 T 1 v n L) (hk : ∀ k, v.ownBlock = some k → w'.heap[k]? = w.heap[k]?) : w'.ownsRow 0 T 1 v n L := by
  refine ⟨h.1, ?_⟩
  rcases h.2 with h0 | ⟨q, cap2, cur, hv, hq, hh, r⟩
  · exact Or.inl h0
  · subst hv
    exact Or.inr ⟨q, cap2, cur, rfl, hq, (hk q rfl).trans hh, r⟩
theorem own_lt {T : TypeId} {v : Value} {n : Nat} {L : List Value} (h : w.ownsRow 0 T 1 v n L) (k : Nat) (hk : v.ownBlock = some k) : k < w.heap.size := by
  rcases h.2 with ⟨h0, _⟩ | ⟨q, cap2, cur, hv, hq, hh, r⟩
  · subst h0; cases hk
  · subst hv
    have : q = k := Option.some.inj hk
    subst this
    exact (Array.getElem?_eq_some_iff.1 hh).1
theorem own_form {T : TypeId} {n : Nat} {v : Value} {L : List Value} (h : w.ownsRow 0 T 1 v n L) : ∃ bo c, v = .slice bo n c := by
  rcases h.2 with ⟨h0, h00⟩ | ⟨q, cap2, cur, hv, r⟩
  · exact ⟨none, 0, by rw [h0, h00]⟩
  · exact ⟨_, _, hv⟩
/-- a row of values of one cell -/
abbrev RW (w : World) (T : TypeId) (ao : Option Addr) (n c : Nat) (L : List Value) : Prop := w.ownsRow 0 T 1 (.slice ao n c) n L
theorem RW.at {T : TypeId} {ao : Option Addr} {n c : Nat} {L : List Value} (h : RW w T ao n c L) (j : Nat) (hj : j < n) : ∃ b, ao = some ⟨b, 0, none⟩ ∧ w.cell? ⟨b, j, none⟩ = L[j]? ∧ w.frozen? ⟨b, j, none⟩ = false := by
  rcases h.2 with ⟨h0, h00⟩ | ⟨q, cap2, cur, hv, hq, hh, r⟩
  · omega
  · simp only [Value.slice.injEq, true_and] at hv
    obtain ⟨rfl, rfl⟩ := hv
    exact ⟨q, rfl, h.cellAt j (by omega), by simp [World.frozen?, hh]⟩
theorem RW.keep {T : TypeId} {ao : Option Addr} {n c : Nat} {L : List Value} (h : RW w T ao n c L) (hk : ∀ k, blk ao = some k → w'.heap[k]? = w.heap[k]?) : RW w' T ao n c L := own_keep h fun k e => hk k (by rw [ownBlock_blk] at e; exact e)
theorem RW.lt {T : TypeId} {ao : Option Addr} {n c : Nat} {L : List Value} (h : RW w T ao n c L) (k : Nat) (e : blk ao = some k) : k < w.heap.size := own_lt h k (by rw [ownBlock_blk]; exact e)
theorem infoL : (Try.prog.info? 40).map (fun i => (i.zero, i.size, i.bytes)) = some (some (.slice none 0 0), 1, 24) := by kernel_rfl
theorem Ap.newA {o : Obj} {ao bo : Option Addr} (h : Ap (w.alloc o) w2 ao bo) : Ap w w2 ao bo := (Ap.new w o ao).trans h
/-- append of one row, laid ahead of it -/
theorem RW.runs {ao : Option Addr} {n c : Nat} {L : List Value} {x : Value} (h : RW w 40 ao n c L) (hx : x.oneCell' = true) (hb : n + 1 ≤ 5000000000000) (ty : TypeId) :
    ∃ bo c2 w2, (Builtin.append_ #[84, 84] ty #[.slice ao n c, .slice (some ⟨w.heap.size, 0, none⟩) 1 1]).run Try.prog (w.alloc (.cells #[x] 40)) = .ok (.slice bo (n + 1) c2) w2 ∧ RW w2 40 bo (n + 1) c2 (L ++ [x]) ∧ Ap w w2 ao bo := by
  obtain ⟨i0, hi, hz0, hz1, hz2⟩ := info_parts infoL
  obtain ⟨v', w2, hrun, hown, hgrow, hnil, hat⟩ := run_append_own_at (P := Try.prog) (w.alloc (.cells #[x] 40)) 0 84 ty 40 i0 (.slice none 0 0) 1 24 Try.underlying84 hi hz0 hz1 hz2 rfl (by decide) (.slice ao n c) n L (own_keep h fun k hk => Below.heap_alloc w _ k (own_lt h k hk)) ⟨w.heap.size, 0, none⟩ 1 1 [x] rfl (fun j u hj => by
    match j, hj with
    | 0, hj => cases hj; exact cell_one_new w _ _ 0 _ rfl) (by simpa using hx) (by unfold maxLen; omega) (by omega) (Nat.zero_le _)
  obtain ⟨bo, c2, rfl⟩ := own_form hown
  rw [ownBlock_blk] at hgrow
  rw [ownBlock_blk, ownBlock_blk] at hat
  refine ⟨bo, c2, w2, hrun, hown, Ap.newA ⟨hgrow, ?_⟩⟩
  rcases hat with e | e
  · exact Or.inl e
  · exact Or.inr ⟨_, e, Nat.le_refl _⟩
theorem RW.app {ao : Option Addr} {n c : Nat} {L : List Value} {x : Value} (h : RW w 40 ao n c L) (hx : x.oneCell' = true) (hb : n + 1 ≤ 5000000000000)
    {ops : Array Oper} {rest : List Oper} {o : Oper} {a : Act} {Q : Exit → Act → World → Prop} (hgd : o.guard = none) (sl y : Operand) (ho : o.op = .call { callee := .builtin .append, args := #[sl, y], argTypes := #[84, 84] })
    (hs : a.eval sl = .slice ao n c) (hy : a.eval y = .slice (some ⟨w.heap.size, 0, none⟩) 1 1)
    (hK : ∀ (bo : Option Addr) (c2 : Nat) (w2 : World), RW w2 40 bo (n + 1) c2 (L ++ [x]) → Ap w w2 ao bo → wpList Try.prog ops Q rest (a.put o.dst (.slice bo (n + 1) c2)) w2) :
    wpList Try.prog ops Q (o :: rest) a (w.alloc (.cells #[x] 40)) := by
  obtain ⟨i0, hi, hz0, hz1, hz2⟩ := info_parts infoL
  refine wpList_append_own_at _ hgd sl y 84 ho 0 40 i0 (.slice none 0 0) 1 24 Try.underlying84 hi hz0 hz1 hz2 rfl (by decide) _ n L hs (own_keep h fun k hk => Below.heap_alloc w _ k (own_lt h k hk)) ⟨w.heap.size, 0, none⟩ 1 1 [x] hy rfl (fun j u hj => ?_) (by simpa using hx) (by unfold maxLen; omega) (by omega) (Nat.zero_le _) ?_
  · match j, hj with
    | 0, hj => cases hj; exact cell_one_new w _ _ 0 _ rfl
  · intro v' w2 hown hgrow _ hat
    obtain ⟨bo, c2, rfl⟩ := own_form hown
    rw [ownBlock_blk] at hgrow
    rw [ownBlock_blk, ownBlock_blk] at hat
    refine hK bo c2 w2 hown (Ap.newA ⟨hgrow, ?_⟩)
    rcases hat with e | e
    · exact Or.inl e
    · exact Or.inr ⟨_, e, Nat.le_refl _⟩
theorem step_appL {W : World} {ops : Array Oper} {o : Oper} {a : Act} {K : Act → World → Prop} {Q : Exit → Act → World → Prop} {E : Prop} {v1 v2 v' : Value} {w2 : World} (hgd : o.guard = none) (s x : Operand) (ho : o.op = .call { callee := .builtin .append, args := #[s, x], argTypes := #[84, 84] })
    (hs : a.eval s = v1) (hx : a.eval x = v2) (hrun : (Builtin.append_ #[84, 84] o.type #[v1, v2]).run Try.prog W = .ok v' w2) (hK : K (a.put o.dst v') w2) :
    if Region.wanted o (yielded ops a.tmps) = true then Oper.wp Try.prog o a W K Q else E := by
  have hw : Region.wanted o (yielded ops a.tmps) = true := by simp [Region.wanted, hgd]
  rw [if_pos hw]
  unfold Oper.wp
  simp [execOp, ho, resolve, invoke, builtin, hs, hx, hrun, Result.andThen]
  exact hK
/-- a row of rows of bytes that the call grows: all of it lies at n0 or later, each row in a block of its own -/
structure GB (n0 : Nat) (w : World) (lo : Option Addr) (ln lc : Nat) (L : List (List Int)) : Prop where
  len : L.length = ln
  ge : ∀ k, blk lo = some k → n0 ≤ k
  row : ∃ V : List Value, RW w 40 lo ln lc V ∧ ∀ i, i < ln → ∃ bo n c, V[i]? = some (.slice bo n c) ∧ BS w bo n c (L.getD i []) ∧ ∀ k, blk bo = some k → n0 ≤ k ∧ k < w.heap.size ∧ blk lo ≠ some k
variable {n0 ln lc n c : Nat} {lo bo ao : Option Addr} {L : List (List Int)} {Y : List Int}
theorem GB.nil (n0 : Nat) (w : World) : GB n0 w none 0 0 [] := ⟨rfl, fun k h => (by cases h), [], World.ownsRow_nil _ _ _ _, fun i h => absurd h (Nat.not_lt_zero i)⟩
theorem GB.lt (h : GB n0 w lo ln lc L) (k : Nat) (e : blk lo = some k) : k < w.heap.size := by
  obtain ⟨V, r, _⟩ := h.row
  exact r.lt k e
theorem BS.keep {so : Option Addr} {m c : Nat} {Y : List Int} (S : BS w so m c Y) (hk : ∀ k, blk so = some k → w'.heap[k]? = w.heap[k]?) : BS w' so m c Y :=
  ⟨S.len, S.nil, fun ad ha t ht => by
    rw [World.cell?_of_block (hk _ (by rw [ha]; exact congrArg some (block_of_add ad t).symm))]
    exact S.cell ad ha t ht⟩
/-- what is not written stays -/
theorem GB.keep (h : GB n0 w lo ln lc L) (hs : w.heap.size ≤ w'.heap.size) (hk : ∀ k, n0 ≤ k → k < w.heap.size → w'.heap[k]? = w.heap[k]?) : GB n0 w' lo ln lc L := by
  obtain ⟨V, r, hr⟩ := h.row
  refine ⟨h.len, h.ge, V, r.keep fun k e => hk k (h.ge k e) (r.lt k e), fun i hi => ?_⟩
  obtain ⟨bo, n, c, hv, B, hb⟩ := hr i hi
  exact ⟨bo, n, c, hv, B.keep fun k e => hk k (hb k e).1 (hb k e).2.1, fun k e => ⟨(hb k e).1, Nat.lt_of_lt_of_le (hb k e).2.1 hs, (hb k e).2.2⟩⟩
theorem GB.keep2 (h : GB n0 w lo ln lc L) {g : Nat} (hg : g < n0) (hs : w.heap.size ≤ w'.heap.size) (hk : ∀ k, k < w.heap.size → k ≠ g → w'.heap[k]? = w.heap[k]?) : GB n0 w' lo ln lc L := h.keep hs fun k h1 h2 => hk k h2 (by omega)
theorem GB.below (h : GB n0 w lo ln lc L) (hb : Below w.heap.size w w') : GB n0 w' lo ln lc L := h.keep hb.size fun k _ h2 => hb.block k h2
theorem getD_snoc (L : List (List Int)) (Y : List Int) (i : Nat) : (L ++ [Y]).getD i [] = if i < L.length then L.getD i [] else if i = L.length then Y else [] := by
  simp only [List.getD_eq_getElem?_getD]
  by_cases h : i < L.length
  · rw [if_pos h, List.getElem?_append_left h]
  · rw [if_neg h, List.getElem?_append_right (by omega)]
    by_cases h2 : i = L.length
    · rw [if_pos h2, h2, Nat.sub_self]; rfl
    · rw [if_neg h2]
      obtain ⟨j, hj⟩ : ∃ j, i - L.length = j + 1 := ⟨i - L.length - 1, by omega⟩
      rw [hj]; rfl
/-- one more row -/
theorem GB.add (h : GB n0 w lo ln lc L) (B : BS w bo n c Y) (hbo : ∀ k, blk bo = some k → n0 ≤ k ∧ k < w.heap.size ∧ blk lo ≠ some k) (hn0 : n0 ≤ w.heap.size) {V : List Value} (hV : RW w 40 lo ln lc V ∧ ∀ i, i < ln → ∃ bo n c, V[i]? = some (.slice bo n c) ∧ BS w bo n c (L.getD i []) ∧ ∀ k, blk bo = some k → n0 ≤ k ∧ k < w.heap.size ∧ blk lo ≠ some k) {lo2 : Option Addr} {lc2 : Nat} (R : RW w2 40 lo2 (ln + 1) lc2 (V ++ [.slice bo n c])) (A : Ap w w2 lo lo2) :
    GB n0 w2 lo2 (ln + 1) lc2 (L ++ [Y]) := by
  have hvl : V.length = ln := by have := hV.1.1; omega
  have hold : ∀ {bo : Option Addr} {n c : Nat} {Y : List Int}, BS w bo n c Y → (∀ k, blk bo = some k → n0 ≤ k ∧ k < w.heap.size ∧ blk lo ≠ some k) → BS w2 bo n c Y ∧ ∀ k, blk bo = some k → n0 ≤ k ∧ k < w2.heap.size ∧ blk lo2 ≠ some k := by
    intro bo n c Y B hb
    refine ⟨B.keep fun k e => A.grown.block k (hb k e).2.1 (fun x => (hb k e).2.2 x.symm), fun k e => ⟨(hb k e).1, Nat.lt_of_lt_of_le (hb k e).2.1 A.grown.size, fun x => ?_⟩⟩
    rcases A.lies with y | ⟨j, y, hj⟩
    · exact (hb k e).2.2 (y ▸ x)
    · rw [y] at x
      have := Option.some.inj x
      have := (hb k e).2.1
      omega
  refine ⟨by rw [List.length_append, h.len]; rfl, fun k e => ?_, V ++ [.slice bo n c], R, fun i hi => ?_⟩
  · rcases A.lies with y | ⟨j, y, hj⟩
    · exact h.ge k (y ▸ e)
    · rw [y] at e
      have := Option.some.inj e
      omega
  · rw [getD_snoc, h.len]
    by_cases hlt : i < ln
    · obtain ⟨bo', n', c', hv, B', hb'⟩ := hV.2 i hlt
      obtain ⟨B2, hb2⟩ := hold B' hb'
      exact ⟨bo', n', c', by rw [List.getElem?_append_left (by omega)]; exact hv, by rw [if_pos hlt]; exact B2, hb2⟩
    · obtain ⟨B2, hb2⟩ := hold B hbo
      have e : i = ln := by omega
      refine ⟨bo, n, c, ?_, by rw [if_neg hlt, if_pos e]; exact B2, hb2⟩
      rw [List.getElem?_append_right (by omega), hvl, e, Nat.sub_self]
      rfl
end Go.Proofs.Ytbmjiedpaffifaa.U
