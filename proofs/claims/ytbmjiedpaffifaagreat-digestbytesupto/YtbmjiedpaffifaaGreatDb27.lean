/- ZNu UGb UJq UJr ZGw -/
import Derived.Test.YtbmjiedpaffifaaGreatDb22
import Derived.Test.YtbmjiedpaffifaaGreatDb26
import Derived.Test.YtbmjiedpaffifaaGreatDb18
import Derived.Test.YtbmjiedpaffifaaGreatDb19
import Derived.Test.YtbmjiedpaffifaaGreatDb24
import Derived.Test.YtbmjiedpaffifaaGreatDb15
namespace Go.Proofs.YtbmjiedpaffifaaGreat
open Go.RowKit
variable {w w' w2 W W' w0 : World} {ao bo : Option Addr} {n cap n' cap' : Nat} {Z : List Int}

theorem nums_pre : ∀ (l m : List Int) (R : List Int), AnN l → AnN m → l.flatMap nB ++ R = m.flatMap nB → ∃ t, m = l ++ t ∧ R = t.flatMap nB
  | [], m, R, _, _, h => ⟨m, rfl, h⟩
  | x :: l, [], R, _, _, h => by
    have := numB_pos x.toNat
    have h2 := congrArg List.length h
    simp only [List.flatMap_nil, List.flatMap_cons, List.length_nil, List.length_append, nB] at h2
    omega
  | x :: l, y :: m, R, hl, hm, h => by
    have hx := hl x List.mem_cons_self
    have hy := hm y List.mem_cons_self
    simp only [List.flatMap_cons, nB, List.append_assoc] at h
    have h1 := U.pNum_to (most := 9223372036854775807) (v := x.toNat) (l.flatMap nB ++ R) (by omega) (by omega)
    have h2 := U.pNum_to (most := 9223372036854775807) (v := y.toNat) (m.flatMap nB) (by omega) (by omega)
    have h3 := h2.symm.trans ((congrArg (U.pNum 9223372036854775807) h).symm.trans h1)
    simp only [Option.some.injEq, Prod.mk.injEq] at h3
    obtain ⟨t, e1, e2⟩ := nums_pre l m R (fun z hz => hl z (List.mem_cons_of_mem _ hz)) (fun z hz => hm z (List.mem_cons_of_mem _ hz)) h3.2.symm
    exact ⟨t, by rw [e1, show x = y by omega]; rfl, e2⟩
/-- a number read at a place -/
theorem rd_cases (hZ : U.Oc Z) (a : Nat) : (∃ x y e, U.rdA Z a = (x, y, e) ∧ e ≠ 0 ∧ U.pNum 9223372036854775807 (Z.drop a) = none) ∨ ∃ v k : Nat, U.rdA Z a = ((v : Int), ((a + k : Nat) : Int), 0) ∧ 0 < k ∧ a + k ≤ Z.length ∧ v ≤ 9223372036854775807 ∧ Z.drop a = U.numB v ++ Z.drop (a + k) := by
  by_cases hE : U.nmE (Z.drop a) 9223372036854775807 = 0
  · right
    obtain ⟨e1, h1, h2, h3⟩ := U.nm_ok hE
    have hp : U.pNum 9223372036854775807 (Z.drop a) = some (U.nmV (Z.drop a), (Z.drop a).drop (U.nmK (Z.drop a))) := by unfold U.pNum; rw [if_pos hE]
    obtain ⟨e2, -, -, h4⟩ := U.pNum_of (hZ.drop a) hp
    rw [List.drop_drop] at e2
    rw [U.rdN_drop] at e1
    rw [List.length_drop] at h2
    refine ⟨U.nmV (Z.drop a), U.nmK (Z.drop a), ?_, h3, by omega, h4, e2⟩
    unfold U.rdA
    rw [e1, if_pos rfl]
    simp
  · left
    obtain ⟨x, y, e, he⟩ : ∃ x y e, U.rdN Z a = (x, y, e) := ⟨_, _, _, rfl⟩
    have hne : e ≠ 0 := by
      intro h0
      subst h0
      apply hE
      unfold U.nmE
      rw [U.rdN_drop, he, if_neg (by simp), if_neg]
      have := U.scan_lt Z a 9 0 (by omega)
      have e2 : U.scan Z a 9 0 = (x, y, 0) := he
      rw [e2] at this
      simp only at this ⊢
      omega
    refine ⟨x, y, e, ?_, hne, by unfold U.pNum; rw [if_neg hE]⟩
    unfold U.rdA
    rw [he, if_neg hne]
theorem nb_ap (h : U.NewB w0 W ao) (a : U.Ap W W' ao bo) : U.NewB w0 W' bo := by
  refine ⟨⟨a.grown.os.trans h.1.os, a.grown.tape.trans h.1.tape, a.grown.output.trans h.1.output, Nat.le_trans h.1.size a.grown.size, fun k hk => ?_⟩, fun k hk => ?_⟩
  · refine (a.grown.block k (Nat.lt_of_lt_of_le hk h.1.size) (fun e => ?_)).trans (h.1.block k hk)
    have := h.2 k e.symm
    omega
  · rcases a.lies with e | ⟨j, e, hj⟩
    · exact h.2 k (by rw [← e]; exact hk)
    · rw [e] at hk
      have := Option.some.inj hk
      have := h.1.size
      omega
/-- while the numbers are read -/
def NuI (w0 W : World) (Z : List Int) (a : Nat) (ao : Option Addr) (n cap : Nat) : Prop := ∃ l, I.BR W ao n cap l ∧ U.NewB w0 W ao ∧ AnN l ∧ Z = l.flatMap nB ++ Z.drop a ∧ n ≤ a
/-- what numbers answers -/
def NuA (w w' : World) (Z : List Int) (r : Ending) : Prop :=
  (∃ l bo cc, r = .returned (.tuple #[.slice bo l.length cc, .bool true]) ∧ I.BR w' bo l.length cc l ∧ U.NewB w w' bo ∧ AnN l ∧ Z = l.flatMap nB) ∨ ((∀ l, AnN l → Z ≠ l.flatMap nB) ∧ r = .returned (.tuple #[.slice none 0 0, .bool false]) ∧ Below w.heap.size w w')
theorem NuI.bad {a : Nat} (h : NuI w0 W Z a ao n cap) (ha : a < Z.length) (hp : U.pNum 9223372036854775807 (Z.drop a) = none) : NuA w0 W Z (.returned (.tuple #[.slice none 0 0, .bool false])) := by
  obtain ⟨l, hB, hN, hA, hZ, -⟩ := h
  refine .inr ⟨fun m hm e => ?_, rfl, hN.1⟩
  obtain ⟨t, e1, e2⟩ := nums_pre l m (Z.drop a) hA hm (by rw [← hZ]; exact e)
  cases t with
  | nil =>
    have := congrArg List.length e2
    simp only [List.length_drop, List.flatMap_nil, List.length_nil] at this
    omega
  | cons x t =>
    have hx := hm x (by rw [e1]; simp)
    have h1 := U.pNum_to (most := 9223372036854775807) (v := x.toNat) (t.flatMap nB) (by omega) (by omega)
    rw [e2] at hp
    simp only [List.flatMap_cons, nB] at hp
    rw [h1] at hp
    cases hp
theorem nuI_next {l : List Int} {a v k : Nat} (hN : U.NewB w0 W ao) (hA : AnN l) (hZ : Z = l.flatMap nB ++ Z.drop a) (hn : n ≤ a) (hk : 0 < k) (hv : v ≤ 9223372036854775807) (hd : Z.drop a = U.numB v ++ Z.drop (a + k)) {c2 : Nat} (A : U.Ap W W' ao bo) (hR : I.BR W' bo (n + 1) c2 (l ++ [(v : Int)])) : NuI w0 W' Z (a + k) bo (n + 1) c2 := by
  refine ⟨l ++ [(v : Int)], hR, nb_ap hN A, fun x hx => ?_, ?_, by omega⟩
  · rcases List.mem_append.1 hx with hx | hx
    · exact hA x hx
    · simp only [List.mem_singleton] at hx
      omega
  · rw [List.flatMap_append]
    simp only [List.flatMap_cons, List.flatMap_nil, List.append_nil, nB, Int.toNat_natCast, List.append_assoc]
    rw [← hd]
    exact hZ
set_option maxRecDepth 100000 in
theorem small_any (x : Int) (w : World) (h0 : 0 ≤ x) : Calls Tryz.prog 32 #[.int .i64 x] w fun e w' => e = .returned (.bool (decide (x ≤ 1000000000))) ∧ w' = w := by
  go_enter Tryz.func32, Tryz.ntmps32
  by_cases h1 : x ≤ 1000000000
  · go_wp2
    go_ret
    exact ⟨by simp [h1], rfl⟩
  · go_wp2
    go_ret
    exact ⟨by simp [h1], rfl⟩
set_option maxRecDepth 100000 in
set_option maxHeartbeats 1600000 in
theorem numbers_any (ao : Option Addr) (n cap : Nat) (Z : List Int) (w : World) (hS : U.Src w ao n cap Z) (hn : n ≤ 3000000000) : Calls Tryz.prog 31 #[.slice ao n cap] w fun r w' => NuA w w' Z r := by
  have HS := hide hS
  have HL : Hid (Z.length = n) := hS.1
  have HO : Hid (U.Oc Z) := hS.2.2.2
  have HI0 : Hid (NuI w w Z 0 none 0 0) := ⟨[], I.BR.nil _, ⟨Below.refl _ _, fun k e => by cases e⟩, fun x hx => (by cases hx), by simp, Nat.le_refl _⟩
  clear hS
  go_enter Tryz.func31, Tryz.ntmps31
  go_wp2_with fail
  go_loopw [4, 5] (fun o i wr => ∃ (a : Nat) (bo : Option Addr) (m cc : Nat), a ≤ n ∧ o = .slice bo m cc ∧ i = .int .i64 a ∧ Hid (NuI w wr Z a bo m cc)) (fun _ i _ => n - (intOf i).toNat)
  case atStart => exact ⟨0, none, 0, 0, Nat.zero_le _, rfl, rfl, HI0⟩
  case round =>
    clear HI0
    obtain ⟨a, bo, m, cc, ha, rfl, rfl, HI⟩ := hrel
    rename World => wr
    by_cases hlt : a < n
    · have HC := hide (U.refRead_any ao n cap Z a wr (HS.out.below HI.out.choose_spec.2.1.1) ha (by omega))
      have hlti : ((a : Nat) : Int) < (n : Int) := by omega
      have HLt := hide hlt
      rcases rd_cases HO.out a with ⟨x, y, e, he, hne, hp⟩ | ⟨v, k, he, hk, hle, hv, hd⟩
      · have HE := hide (HI.out.bad (by rw [HL.out]; exact hlt) hp)
        have hne2 : (e != 0) = true := by simpa using hne
        rw [he] at HC
        clear hp hne he hlt
        go_wp2_with fail
        refine HC.out.mono ?_
        rintro r w2 ⟨rfl, rfl⟩
        unfold U.p3
        go_wp2_with fail
        go_ret2
        exact HE.out
      · obtain ⟨l, hB, hN, hA, hZ, hm⟩ := HI.out
        have HB := hide hB
        have HM : Hid (m ≤ a ∧ a + k ≤ n) := ⟨hm, by rw [← HL.out]; exact hle⟩
        obtain ⟨b, hb⟩ : ∃ b, a + k = b := ⟨_, rfl⟩
        rw [hb] at he
        rw [he] at HC
        have HStep : Hid (∀ bo2 c2 w5, U.Ap wr w5 bo bo2 → I.BR w5 bo2 (m + 1) c2 (l ++ [(v : Int)]) → NuI w w5 Z b bo2 (m + 1) c2) := fun bo2 c2 w5 A5 R5 => by
          rw [← hb]
          exact nuI_next hN hA hZ hm hk hv hd A5 R5
        have HBn : Hid (a < b ∧ b ≤ n ∧ m + 1 ≤ 17592186044416) := ⟨by omega, by have := HM.out; omega, by have := HM.out; omega⟩
        clear hd hk hle hb he hlt HI hB hN hA hZ hm
        go_wp2_with fail
        refine HC.out.mono ?_
        rintro r w2 ⟨rfl, rfl⟩
        unfold U.p3
        go_wp2_with (at_builtin; refine HB.out.app1 (v : Int) HBn.out.2.2 rfl (.tmp 22) (.tmp 24) rfl rfl rfl ?_; intro b5 c5 w5 S5 A5; have HE := hide (HStep.out _ _ _ A5 S5); clear S5 A5)
        go_roundw
        case rel => exact ⟨b, b5, m + 1, c5, HBn.out.2.1, rfl, rfl, HE⟩
        case measure => have := HBn.out; simp [intOf]; omega
    · have hlti : ¬ ((a : Nat) : Int) < (n : Int) := by omega
      have HE : Hid (NuA w wr Z (.returned (.tuple #[.slice bo m cc, .bool true]))) := by
        obtain ⟨l, hB, hN, hA, hZ, -⟩ := HI.out
        have e := hB.len
        subst e
        rw [List.drop_eq_nil_of_le (by have := HL.out; omega), List.append_nil] at hZ
        exact .inl ⟨l, bo, cc, rfl, hB, hN, hA, hZ⟩
      clear hlt
      go_wp2_with fail
      go_ret2
      exact HE.out
end Go.Proofs.YtbmjiedpaffifaaGreat
namespace Go.Proofs.YtbmjiedpaffifaaGreat.U
open Go.RowKit
variable {w w' w2 : World} {g : Nat}

theorem own_keep {T : TypeId} {v : Value} {n : Nat} {L : List Value} (h : w.ownsRow 0 T 1 v n L) (hk : ∀ k, v.ownBlock = some k → w'.heap[k]? = w.heap[k]?) : w'.ownsRow 0 T 1 v n L := by
  refine ⟨h.1, ?_⟩
  rcases h.2 with h0 | ⟨q, cap2, cur, hv, hq, hh, r⟩
  · exact Or.inl h0
  · subst hv
    exact Or.inr ⟨q, cap2, cur, rfl, hq, (hk q rfl).trans hh, r⟩
theorem own_lt {T : TypeId} {v : Value} {n : Nat} {L : List Value} (h : w.ownsRow 0 T 1 v n L) (k : Nat) (hk : v.ownBlock = some k) : k < w.heap.size := by
  rcases h.2 with ⟨h0, _⟩ | ⟨q, cap2, cur, hv, hq, hh, r⟩
  · subst h0; cases hk
  · subst hv
    have : q = k := Option.some.inj hk
    subst this
    exact (Array.getElem?_eq_some_iff.1 hh).1
theorem own_form {T : TypeId} {n : Nat} {v : Value} {L : List Value} (h : w.ownsRow 0 T 1 v n L) : ∃ bo c, v = .slice bo n c := by
  rcases h.2 with ⟨h0, h00⟩ | ⟨q, cap2, cur, hv, r⟩
  · exact ⟨none, 0, by rw [h0, h00]⟩
  · exact ⟨_, _, hv⟩
/-- a row of values of one cell -/
abbrev RW (w : World) (T : TypeId) (ao : Option Addr) (n c : Nat) (L : List Value) : Prop := w.ownsRow 0 T 1 (.slice ao n c) n L
theorem RW.at {T : TypeId} {ao : Option Addr} {n c : Nat} {L : List Value} (h : RW w T ao n c L) (j : Nat) (hj : j < n) : ∃ b, ao = some ⟨b, 0, none⟩ ∧ w.cell? ⟨b, j, none⟩ = L[j]? ∧ w.frozen? ⟨b, j, none⟩ = false := by
  rcases h.2 with ⟨h0, h00⟩ | ⟨q, cap2, cur, hv, hq, hh, r⟩
  · omega
  · simp only [Value.slice.injEq, true_and] at hv
    obtain ⟨rfl, rfl⟩ := hv
    exact ⟨q, rfl, h.cellAt j (by omega), by simp [World.frozen?, hh]⟩
theorem RW.keep {T : TypeId} {ao : Option Addr} {n c : Nat} {L : List Value} (h : RW w T ao n c L) (hk : ∀ k, blk ao = some k → w'.heap[k]? = w.heap[k]?) : RW w' T ao n c L := own_keep h fun k e => hk k (by rw [ownBlock_blk] at e; exact e)
theorem RW.lt {T : TypeId} {ao : Option Addr} {n c : Nat} {L : List Value} (h : RW w T ao n c L) (k : Nat) (e : blk ao = some k) : k < w.heap.size := own_lt h k (by rw [ownBlock_blk]; exact e)
theorem infoL : (Tryz.prog.info? 28).map (fun i => (i.zero, i.size, i.bytes)) = some (some (.slice none 0 0), 1, 24) := by kernel_rfl
theorem Ap.newA {o : Obj} {ao bo : Option Addr} (h : Ap (w.alloc o) w2 ao bo) : Ap w w2 ao bo := (Ap.new w o ao).trans h
/-- append of one row, laid ahead of it -/
theorem RW.runs {ao : Option Addr} {n c : Nat} {L : List Value} {x : Value} (h : RW w 28 ao n c L) (hx : x.oneCell' = true) (hb : n + 1 ≤ 5000000000000) (ty : TypeId) :
    ∃ bo c2 w2, (Builtin.append_ #[39, 39] ty #[.slice ao n c, .slice (some ⟨w.heap.size, 0, none⟩) 1 1]).run Tryz.prog (w.alloc (.cells #[x] 28)) = .ok (.slice bo (n + 1) c2) w2 ∧ RW w2 28 bo (n + 1) c2 (L ++ [x]) ∧ Ap w w2 ao bo := by
  obtain ⟨i0, hi, hz0, hz1, hz2⟩ := info_parts infoL
  obtain ⟨v', w2, hrun, hown, hgrow, hnil, hat⟩ := run_append_own_at (P := Tryz.prog) (w.alloc (.cells #[x] 28)) 0 39 ty 28 i0 (.slice none 0 0) 1 24 Tryz.underlying39 hi hz0 hz1 hz2 rfl (by decide) (.slice ao n c) n L (own_keep h fun k hk => Below.heap_alloc w _ k (own_lt h k hk)) ⟨w.heap.size, 0, none⟩ 1 1 [x] rfl (fun j u hj => by
    match j, hj with
    | 0, hj => cases hj; exact cell_one_new w _ _ 0 _ rfl) (by simpa using hx) (by unfold maxLen; omega) (by omega) (Nat.zero_le _)
  obtain ⟨bo, c2, rfl⟩ := own_form hown
  rw [ownBlock_blk] at hgrow
  rw [ownBlock_blk, ownBlock_blk] at hat
  refine ⟨bo, c2, w2, hrun, hown, Ap.newA ⟨hgrow, ?_⟩⟩
  rcases hat with e | e
  · exact Or.inl e
  · exact Or.inr ⟨_, e, Nat.le_refl _⟩
theorem RW.app {ao : Option Addr} {n c : Nat} {L : List Value} {x : Value} (h : RW w 28 ao n c L) (hx : x.oneCell' = true) (hb : n + 1 ≤ 5000000000000)
    {ops : Array Oper} {rest : List Oper} {o : Oper} {a : Act} {Q : Exit → Act → World → Prop} (hgd : o.guard = none) (sl y : Operand) (ho : o.op = .call { callee := .builtin .append, args := #[sl, y], argTypes := #[39, 39] })
    (hs : a.eval sl = .slice ao n c) (hy : a.eval y = .slice (some ⟨w.heap.size, 0, none⟩) 1 1)
    (hK : ∀ (bo : Option Addr) (c2 : Nat) (w2 : World), RW w2 28 bo (n + 1) c2 (L ++ [x]) → Ap w w2 ao bo → wpList Tryz.prog ops Q rest (a.put o.dst (.slice bo (n + 1) c2)) w2) :
    wpList Tryz.prog ops Q (o :: rest) a (w.alloc (.cells #[x] 28)) := by
  obtain ⟨i0, hi, hz0, hz1, hz2⟩ := info_parts infoL
  refine wpList_append_own_at _ hgd sl y 39 ho 0 28 i0 (.slice none 0 0) 1 24 Tryz.underlying39 hi hz0 hz1 hz2 rfl (by decide) _ n L hs (own_keep h fun k hk => Below.heap_alloc w _ k (own_lt h k hk)) ⟨w.heap.size, 0, none⟩ 1 1 [x] hy rfl (fun j u hj => ?_) (by simpa using hx) (by unfold maxLen; omega) (by omega) (Nat.zero_le _) ?_
  · match j, hj with
    | 0, hj => cases hj; exact cell_one_new w _ _ 0 _ rfl
  · intro v' w2 hown hgrow _ hat
    obtain ⟨bo, c2, rfl⟩ := own_form hown
    rw [ownBlock_blk] at hgrow
    rw [ownBlock_blk, ownBlock_blk] at hat
    refine hK bo c2 w2 hown (Ap.newA ⟨hgrow, ?_⟩)
    rcases hat with e | e
    · exact Or.inl e
    · exact Or.inr ⟨_, e, Nat.le_refl _⟩
theorem step_appL {W : World} {ops : Array Oper} {o : Oper} {a : Act} {K : Act → World → Prop} {Q : Exit → Act → World → Prop} {E : Prop} {v1 v2 v' : Value} {w2 : World} (hgd : o.guard = none) (s x : Operand) (ho : o.op = .call { callee := .builtin .append, args := #[s, x], argTypes := #[39, 39] })
    (hs : a.eval s = v1) (hx : a.eval x = v2) (hrun : (Builtin.append_ #[39, 39] o.type #[v1, v2]).run Tryz.prog W = .ok v' w2) (hK : K (a.put o.dst v') w2) :
    if Region.wanted o (yielded ops a.tmps) = true then Oper.wp Tryz.prog o a W K Q else E := by
  have hw : Region.wanted o (yielded ops a.tmps) = true := by simp [Region.wanted, hgd]
  rw [if_pos hw]
  unfold Oper.wp
  simp [execOp, ho, resolve, invoke, builtin, hs, hx, hrun, Result.andThen]
  exact hK
/-- a row of rows of bytes that the call grows: all of it lies at n0 or later, each row in a block of its own -/
structure GB (n0 : Nat) (w : World) (lo : Option Addr) (ln lc : Nat) (L : List (List Int)) : Prop where
  len : L.length = ln
  ge : ∀ k, blk lo = some k → n0 ≤ k
  row : ∃ V : List Value, RW w 28 lo ln lc V ∧ ∀ i, i < ln → ∃ bo n c, V[i]? = some (.slice bo n c) ∧ BS w bo n c (L.getD i []) ∧ ∀ k, blk bo = some k → n0 ≤ k ∧ k < w.heap.size ∧ blk lo ≠ some k
variable {n0 ln lc n c : Nat} {lo bo ao : Option Addr} {L : List (List Int)} {Y : List Int}
theorem GB.nil (n0 : Nat) (w : World) : GB n0 w none 0 0 [] := ⟨rfl, fun k h => (by cases h), [], World.ownsRow_nil _ _ _ _, fun i h => absurd h (Nat.not_lt_zero i)⟩
theorem GB.lt (h : GB n0 w lo ln lc L) (k : Nat) (e : blk lo = some k) : k < w.heap.size := by
  obtain ⟨V, r, _⟩ := h.row
  exact r.lt k e
theorem BS.keep {so : Option Addr} {m c : Nat} {Y : List Int} (S : BS w so m c Y) (hk : ∀ k, blk so = some k → w'.heap[k]? = w.heap[k]?) : BS w' so m c Y :=
  ⟨S.len, S.nil, fun ad ha t ht => by
    rw [World.cell?_of_block (hk _ (by rw [ha]; exact congrArg some (block_of_add ad t).symm))]
    exact S.cell ad ha t ht⟩
/-- what is not written stays -/
theorem GB.keep (h : GB n0 w lo ln lc L) (hs : w.heap.size ≤ w'.heap.size) (hk : ∀ k, n0 ≤ k → k < w.heap.size → w'.heap[k]? = w.heap[k]?) : GB n0 w' lo ln lc L := by
  obtain ⟨V, r, hr⟩ := h.row
  refine ⟨h.len, h.ge, V, r.keep fun k e => hk k (h.ge k e) (r.lt k e), fun i hi => ?_⟩
  obtain ⟨bo, n, c, hv, B, hb⟩ := hr i hi
  exact ⟨bo, n, c, hv, B.keep fun k e => hk k (hb k e).1 (hb k e).2.1, fun k e => ⟨(hb k e).1, Nat.lt_of_lt_of_le (hb k e).2.1 hs, (hb k e).2.2⟩⟩
theorem GB.keep2 (h : GB n0 w lo ln lc L) {g : Nat} (hg : g < n0) (hs : w.heap.size ≤ w'.heap.size) (hk : ∀ k, k < w.heap.size → k ≠ g → w'.heap[k]? = w.heap[k]?) : GB n0 w' lo ln lc L := h.keep hs fun k h1 h2 => hk k h2 (by omega)
theorem GB.below (h : GB n0 w lo ln lc L) (hb : Below w.heap.size w w') : GB n0 w' lo ln lc L := h.keep hb.size fun k _ h2 => hb.block k h2
theorem getD_snoc (L : List (List Int)) (Y : List Int) (i : Nat) : (L ++ [Y]).getD i [] = if i < L.length then L.getD i [] else if i = L.length then Y else [] := by
  simp only [List.getD_eq_getElem?_getD]
  by_cases h : i < L.length
  · rw [if_pos h, List.getElem?_append_left h]
  · rw [if_neg h, List.getElem?_append_right (by omega)]
    by_cases h2 : i = L.length
    · rw [if_pos h2, h2, Nat.sub_self]; rfl
    · rw [if_neg h2]
      obtain ⟨j, hj⟩ : ∃ j, i - L.length = j + 1 := ⟨i - L.length - 1, by omega⟩
      rw [hj]; rfl
/-- one more row -/
theorem GB.add (h : GB n0 w lo ln lc L) (B : BS w bo n c Y) (hbo : ∀ k, blk bo = some k → n0 ≤ k ∧ k < w.heap.size ∧ blk lo ≠ some k) (hn0 : n0 ≤ w.heap.size) {V : List Value} (hV : RW w 28 lo ln lc V ∧ ∀ i, i < ln → ∃ bo n c, V[i]? = some (.slice bo n c) ∧ BS w bo n c (L.getD i []) ∧ ∀ k, blk bo = some k → n0 ≤ k ∧ k < w.heap.size ∧ blk lo ≠ some k) {lo2 : Option Addr} {lc2 : Nat} (R : RW w2 28 lo2 (ln + 1) lc2 (V ++ [.slice bo n c])) (A : Ap w w2 lo lo2) :
    GB n0 w2 lo2 (ln + 1) lc2 (L ++ [Y]) := by
  have hvl : V.length = ln := by have := hV.1.1; omega
  have hold : ∀ {bo : Option Addr} {n c : Nat} {Y : List Int}, BS w bo n c Y → (∀ k, blk bo = some k → n0 ≤ k ∧ k < w.heap.size ∧ blk lo ≠ some k) → BS w2 bo n c Y ∧ ∀ k, blk bo = some k → n0 ≤ k ∧ k < w2.heap.size ∧ blk lo2 ≠ some k := by
    intro bo n c Y B hb
    refine ⟨B.keep fun k e => A.grown.block k (hb k e).2.1 (fun x => (hb k e).2.2 x.symm), fun k e => ⟨(hb k e).1, Nat.lt_of_lt_of_le (hb k e).2.1 A.grown.size, fun x => ?_⟩⟩
    rcases A.lies with y | ⟨j, y, hj⟩
    · exact (hb k e).2.2 (y ▸ x)
    · rw [y] at x
      have := Option.some.inj x
      have := (hb k e).2.1
      omega
  refine ⟨by rw [List.length_append, h.len]; rfl, fun k e => ?_, V ++ [.slice bo n c], R, fun i hi => ?_⟩
  · rcases A.lies with y | ⟨j, y, hj⟩
    · exact h.ge k (y ▸ e)
    · rw [y] at e
      have := Option.some.inj e
      omega
  · rw [getD_snoc, h.len]
    by_cases hlt : i < ln
    · obtain ⟨bo', n', c', hv, B', hb'⟩ := hV.2 i hlt
      obtain ⟨B2, hb2⟩ := hold B' hb'
      exact ⟨bo', n', c', by rw [List.getElem?_append_left (by omega)]; exact hv, by rw [if_pos hlt]; exact B2, hb2⟩
    · obtain ⟨B2, hb2⟩ := hold B hbo
      have e : i = ln := by omega
      refine ⟨bo, n, c, ?_, by rw [if_neg hlt, if_pos e]; exact B2, hb2⟩
      rw [List.getElem?_append_right (by omega), hvl, e, Nat.sub_self]
      rfl
end Go.Proofs.YtbmjiedpaffifaaGreat.U
namespace Go.Proofs.YtbmjiedpaffifaaGreat.U
open Go.RowKit
variable {w w' w2 : World} {lo : Option Addr} {ln lc : Nat} {L : List (List Int)}

/-- a row of rows of bytes that is read -/
structure LS (w : World) (lo : Option Addr) (ln lc : Nat) (L : List (List Int)) : Prop where
  len : L.length = ln
  nil : lo = none → ln = 0 ∧ lc = 0
  cell : ∀ ad, lo = some ad → ∀ i, i < ln → ∃ bo n c, w.cell? (ad.add i) = some (.slice bo n c) ∧ BS w bo n c (L.getD i [])
theorem LS.below (h : LS w lo ln lc L) (hb : Below w.heap.size w w') : LS w' lo ln lc L :=
  ⟨h.len, h.nil, fun ad ha i hi => by
    obtain ⟨bo, n, c, hc, B⟩ := h.cell ad ha i hi
    exact ⟨bo, n, c, (hb.cell (World.block_lt_of_cell? w _ hc)).trans hc, B.below hb⟩⟩
theorem LS.at (h : LS w lo ln lc L) (i : Nat) (hi : i < ln) : ∃ ad bo n c, lo = some ad ∧ w.cell? (ad.add i) = some (.slice bo n c) ∧ BS w bo n c (L.getD i []) := by
  cases lo with
  | none => have := (h.nil rfl).1; omega
  | some ad =>
    obtain ⟨bo, n, c, hc, B⟩ := h.cell ad rfl i hi
    exact ⟨ad, bo, n, c, rfl, hc, B⟩
theorem GB.ls {n0 : Nat} (h : GB n0 w lo ln lc L) : LS w lo ln lc L := by
  obtain ⟨V, r, hr⟩ := h.row
  refine ⟨h.len, fun e => ?_, fun ad ha i hi => ?_⟩
  · subst e
    rcases r.2 with ⟨h0, h00⟩ | ⟨q, cap2, cur, hv, _⟩
    · simp only [Value.slice.injEq, true_and] at h0
      exact h0
    · cases hv
  · obtain ⟨b, hb, hc, -⟩ := r.at i hi
    obtain ⟨bo, n, c, hv, B, -⟩ := hr i hi
    rw [ha] at hb
    obtain rfl := Option.some.inj hb
    exact ⟨bo, n, c, by rw [Addr.add_lit, Nat.zero_add, hc, hv], B⟩
/-- frames one behind the other -/
def joinB (L : List (List Int)) : List Int := L.flatMap fun Y => numB Y.length ++ Y
theorem joinB_succ (L : List (List Int)) (k : Nat) (h : k < L.length) : joinB (L.take (k + 1)) = joinB (L.take k) ++ (numB (L.getD k []).length ++ L.getD k []) := by
  unfold joinB
  rw [List.take_add_one, List.flatMap_append, List.getD_eq_getElem?_getD, List.getElem?_eq_getElem h]
  simp
theorem joinB_le (L : List (List Int)) (k : Nat) : (joinB (L.take k)).length ≤ (joinB L).length := by
  have : joinB L = joinB (L.take k) ++ joinB (L.drop k) := by
    unfold joinB
    rw [← List.flatMap_append, List.take_append_drop]
  rw [this, List.length_append]
  omega
set_option maxRecDepth 100000 in
theorem frameJ_any (ao : Option Addr) (n c : Nat) (Z : List Int) (so : Option Addr) (m d : Nat) (Y : List Int) (w : World) (S : BR w ao n c Z) (B : BS w so m d Y) (hne : m ≠ 0 → ∀ k, blk so = some k → blk ao ≠ some k) (hn : n + m ≤ 140737488355000) :
    Calls Tryz.prog 26 #[.slice ao n c, .slice so m d] w fun r w' => ∃ bo l cc, r = .returned (.slice bo l cc) ∧ BR w' bo l cc (Z ++ (numB m ++ Y)) ∧ Ap w w' ao bo := by
  have HS := hide S
  have HN := hide hn
  have HY := hide B
  have HE := hide hne
  clear S hn B hne
  go_enter Tryz.func26, Tryz.ntmps26
  go_wp2_with fail
  refine (appendNum_any ao n c Z m w HS.out (by have := HN.out; omega) (by have := HN.out; omega)).mono ?_
  rintro r w2 ⟨bo, cc, rfl, B2, A2⟩
  have HL : Hid (n + (numB m).length + m ≤ 140737488355328) := by show _ ≤ _; have := HN.out; have := numB_nine (n := m) (by omega); omega
  have HB := hide B2
  have HA := hide A2
  have HY2 := hide (HY.out.ap0 A2 HE.out)
  clear B2 A2
  go_wp2_with (at_builtin; refine HB.out.appB HY2.out HL.out rfl (.tmp 8) (.tmp 9) rfl rfl rfl ?_; intro b5 c5 w5 S5 A5; have HS5 := hide S5; have HA5 := hide (HA.out.trans A5); clear S5 A5)
  go_ret
  refine ⟨b5, _, c5, rfl, ?_, HA5.out⟩
  rw [← List.append_assoc]
  exact HS5.out
/-- what both Joins answer -/
def JoA (w w' : World) (L : List (List Int)) (r : Ending) : Prop := ∃ bo l cc, r = .returned (.slice bo l cc) ∧ BR w' bo l cc (joinB L) ∧ NewB w w' bo
theorem ap_new {ao bo : Option Addr} {w0 : World} (N : NewB w0 w ao) (A : Ap w w' ao bo) : NewB w0 w' bo := by
  refine ⟨N.1.grown A.grown N.1.size N.2, fun k e => ?_⟩
  rcases A.lies with x | ⟨j, x, hj⟩
  · exact N.2 k (x ▸ e)
  · rw [x] at e
    have := Option.some.inj e
    have := N.1.size
    omega
set_option maxRecDepth 100000 in
theorem join_any (lo : Option Addr) (ln lc : Nat) (L : List (List Int)) (w : World) (S : LS w lo ln lc L) (hln : ln ≤ 140737488355328) (hb : (joinB L).length ≤ 140737488355000) :
    Calls Tryz.prog 11 #[.slice lo ln lc] w fun r w' => JoA w w' L r := by
  have HS := hide S
  have HN := hide hln
  have HB := hide hb
  clear S hln hb
  go_enter Tryz.func11, Tryz.ntmps11
  go_wp2_with fail
  go_loopw [3, 8] (fun o i wr => ∃ (k : Nat) (bo : Option Addr) (l cc : Nat), k ≤ ln ∧ o = .slice bo l cc ∧ i = .int .i64 k ∧ Hid (BR wr bo l cc (joinB (L.take k)) ∧ NewB w wr bo)) (fun _ i _ => ln - (intOf i).toNat)
  case atStart => exact ⟨0, none, 0, 0, Nat.zero_le _, rfl, rfl, BR.nil _, Below.refl _ _, fun k e => by cases e⟩
  case round =>
    obtain ⟨k, bo, l, cc, hk, rfl, rfl, HI⟩ := hrel
    by_cases hlt : k < ln
    · have HLT := hide hlt
      have HK1 : Hid (wrap64 ((k : Int) + 1) = ((k + 1 : Nat) : Int)) := by show _ = _; have := HN.out; rw [w64 (by omega) (by omega)]; rfl
      obtain ⟨ad, so, m, d, rfl, hc, B⟩ := (HS.out.below HI.out.2.1).at k hlt
      have hl := HI.out.1.len
      have hj := joinB_succ L k (by rw [HS.out.len]; exact hlt)
      have hle := joinB_le L (k + 1)
      rw [hj, List.length_append, List.length_append, hl, B.len] at hle
      have HC := hide (frameJ_any bo l cc _ so m d _ wr HI.out.1 B (fun h0 j e x => by
        have h1 := (B.lt h0 j e)
        have h2 := HI.out.2.2 j x
        obtain ⟨_, so', m', d', h3, hc', B'⟩ := HS.out.at k hlt
        obtain rfl := Option.some.inj h3
        have h4 := (HI.out.2.1.cell (World.block_lt_of_cell? w _ hc')).trans hc'
        rw [hc] at h4
        simp only [Option.some.injEq, Value.slice.injEq] at h4
        obtain ⟨rfl, rfl, rfl⟩ := h4
        have h5 := B'.lt h0 j e
        omega) (by have := HB.out; omega))
      rw [← B.len, B.len, show numB m ++ L.getD k [] = numB (L.getD k []).length ++ L.getD k [] by rw [B.len], ← hj] at HC
      clear B hl hj hle
      go_wp2_with fail
      refine HC.out.mono ?_
      rintro r w3 ⟨b3, l3, c3, rfl, B3, A3⟩
      have HE : Hid (BR w3 b3 l3 c3 (joinB (L.take (k + 1))) ∧ NewB w w3 b3) := ⟨B3, ap_new HI.out.2 A3⟩
      clear B3 A3 HC HI
      go_wp2_with fail
      go_roundw
      case rel => exact ⟨k + 1, b3, l3, c3, HLT.out, rfl, by rw [HK1.out], HE⟩
      case measure => rw [HK1.out]; have := HLT.out; simp [intOf]; omega
    · obtain ⟨rfl, -⟩ : k = ln ∧ True := ⟨by omega, trivial⟩
      have HE : Hid (JoA w wr L (.returned (.slice bo l cc))) := ⟨bo, l, cc, rfl, by have h := HI.out.1; rw [List.take_of_length_le (by rw [HS.out.len]; omega)] at h; exact h, HI.out.2⟩
      go_wp2_with fail
      go_ret
      exact HE.out
end Go.Proofs.YtbmjiedpaffifaaGreat.U
namespace Go.Proofs.YtbmjiedpaffifaaGreat.U
open Go.RowKit
variable {w w' w2 : World} {lo : Option Addr} {ln lc : Nat} {L : List (List Int)}

/-- the part that is read lies below -/
theorem LS.lt_of (S : LS w lo ln lc L) {wr : World} (hb : Below w.heap.size w wr) {ad : Addr} (ha : lo = some ad) {k : Nat} (hk : k < ln) {so : Option Addr} {m d : Nat} (hc : wr.cell? (ad.add k) = some (.slice so m d)) (h0 : m ≠ 0) {j : Nat} (e : blk so = some j) : j < w.heap.size := by
  obtain ⟨_, so', m', d', h3, hc', B'⟩ := S.at k hk
  rw [ha] at h3
  obtain rfl := Option.some.inj h3
  have h4 := (hb.cell (World.block_lt_of_cell? w _ hc')).trans hc'
  rw [hc] at h4
  simp only [Option.some.injEq, Value.slice.injEq] at h4
  obtain ⟨rfl, rfl, rfl⟩ := h4
  exact B'.lt h0 j e
set_option maxRecDepth 100000 in
theorem rJoin_any (lo : Option Addr) (ln lc : Nat) (L : List (List Int)) (w : World) (S : LS w lo ln lc L) (hln : ln ≤ 140737488355328) (hb : (joinB L).length ≤ 140737488355000) :
    Calls Tryz.prog 13 #[.slice lo ln lc] w fun r w' => JoA w w' L r := by
  have HS := hide S
  have HN := hide hln
  have HB := hide hb
  clear S hln hb
  go_enter Tryz.func13, Tryz.ntmps13
  go_wp2_with fail
  go_loopw [3, 4] (fun o i wr => ∃ (k : Nat) (bo : Option Addr) (l cc : Nat), k ≤ ln ∧ o = .slice bo l cc ∧ i = .int .i64 k ∧ Hid (BR wr bo l cc (joinB (L.take k)) ∧ NewB w wr bo)) (fun _ i _ => ln - (intOf i).toNat)
  case atStart => exact ⟨0, none, 0, 0, Nat.zero_le _, rfl, rfl, BR.nil _, Below.refl _ _, fun k e => by cases e⟩
  case round =>
    obtain ⟨k, bo, l, cc, hk, rfl, rfl, HI⟩ := hrel
    by_cases hlt : k < ln
    · have HLT := hide hlt
      have HK1 : Hid (wrap64 ((k : Int) + 1) = ((k + 1 : Nat) : Int)) := by show _ = _; have := HN.out; rw [w64 (by omega) (by omega)]; rfl
      obtain ⟨ad, so, m, d, rfl, hc, B⟩ := (HS.out.below HI.out.2.1).at k hlt
      have hl := HI.out.1.len
      have hj := joinB_succ L k (by rw [HS.out.len]; exact hlt)
      have hle := joinB_le L (k + 1)
      rw [hj, List.length_append, List.length_append, hl, B.len] at hle
      have HLE : Hid (l + (numB m).length + m ≤ 140737488355000) := by show _ ≤ _; have := HB.out; omega
      have HJ : Hid (joinB (L.take k) ++ numB m ++ L.getD k [] = joinB (L.take (k + 1))) := by show _ = _; rw [hj, B.len, List.append_assoc]
      have HLT2 : Hid (m ≠ 0 → ∀ j, blk so = some j → j < w.heap.size) := fun h0 j e => HS.out.lt_of HI.out.2.1 rfl hlt hc h0 e
      have HBS := hide B
      have HC := hide (refNum_any m wr (by have := HLE.out; omega))
      clear B hl hj hle
      go_wp2_with fail
      refine HC.out.mono ?_
      rintro r w3 ⟨b3, c3, rfl, B3, A3⟩
      have N3 := NewB.of_ap A3
      have HR3 := hide (HI.out.1.below N3.1)
      have HN3 : Hid (NewB w w3 bo) := ⟨HI.out.2.1.trans (N3.1.mono HI.out.2.1.size), HI.out.2.2⟩
      have hc3 := (N3.1.cell (World.block_lt_of_cell? wr _ hc)).trans hc
      have HB3 := hide B3
      have HBS3 := hide (HBS.out.below N3.1)
      have HF3 : Hid (∀ j, blk b3 = some j → wr.heap.size ≤ j) := N3.2
      have HL3 : Hid (∀ j, blk bo = some j → j < wr.heap.size) := fun j e => HI.out.1.lt j e
      have HW : Hid (wr.cell? (ad.add k) = some (.slice so m d)) := hc
      clear B3 A3 N3 hc HC
      go_wp2_with (first | (at_builtin; refine HR3.out.appB HB3.out.bs (by have := HLE.out; omega) rfl (.tmp 11) (.tmp 17) rfl rfl rfl ?_; intro b5 c5 w5 S5 A5; have hc5 := (show w5.cell? (ad.add k) = some (.slice so m d) from by rw [World.cell?_of_block (A5.grown.block _ (World.block_lt_of_cell? w3 _ hc3) (fun e => by have h1 := HN3.out.2 _ e.symm; rw [block_of_add] at h1; have h2 := World.block_lt_of_cell? _ _ (HS.out.cell ad rfl k HLT.out).choose_spec.choose_spec.choose_spec.1; rw [block_of_add] at h2; omega))]; exact hc3); have HBS5 := hide (HBS3.out.ap0 A5 (fun h0 j e x => by have h1 := HN3.out.2 j x; have h2 := HLT2.out h0 j e; omega)); have HS5 := hide S5; have HN5 := hide (ap_new HN3.out A5); clear S5 A5) | (at_builtin; refine HS5.out.appB HBS5.out (by have := HLE.out; omega) rfl (.tmp 19) (.tmp 23) rfl rfl rfl ?_; intro b7 c7 w7 S7 A7; have HE : Hid (BR w7 b7 (l + (numB m).length + m) c7 (joinB (L.take (k + 1))) ∧ NewB w w7 b7) := ⟨by rw [← HJ.out]; exact S7, ap_new HN5.out A7⟩; clear S7 A7))
      go_roundw
      case rel => exact ⟨k + 1, b7, _, c7, HLT.out, rfl, by rw [HK1.out], HE⟩
      case measure => rw [HK1.out]; have := HLT.out; simp [intOf]; omega
    · obtain ⟨rfl, -⟩ : k = ln ∧ True := ⟨by omega, trivial⟩
      have HE : Hid (JoA w wr L (.returned (.slice bo l cc))) := ⟨bo, l, cc, rfl, by have h := HI.out.1; rw [List.take_of_length_le (by rw [HS.out.len]; omega)] at h; exact h, HI.out.2⟩
      go_wp2_with fail
      go_ret
      exact HE.out
end Go.Proofs.YtbmjiedpaffifaaGreat.U
namespace Go.Proofs.YtbmjiedpaffifaaGreat
open Go.RowKit

/-- a row that grows in new memory; the blocks of F stay as they are -/
structure GW (w0 W : World) (ao : Option Addr) (n cap : Nat) (Z : List Int) (F : List (Nat × Obj)) : Prop where
  r : U.BR W ao n cap Z
  nw : U.NewB w0 W ao
  keep : ∀ x ∈ F, W.heap[x.1]? = some x.2 ∧ U.blk ao ≠ some x.1
variable {w0 W W' : World} {ao bo : Option Addr} {n cap n' cap' : Nat} {Z Z' : List Int} {F : List (Nat × Obj)}
theorem gw_new (w : World) : GW w w none 0 0 [] [] := ⟨U.BR.nil w, ⟨Below.refl _ _, fun k hk => by cases hk⟩, fun x hx => by cases hx⟩
theorem GW.lt (h : GW w0 W ao n cap Z F) (x : Nat × Obj) (hx : x ∈ F) : x.1 < W.heap.size := (Array.getElem?_eq_some_iff.1 (h.keep x hx).1).1
theorem GW.ap (h : GW w0 W ao n cap Z F) (hr : U.BR W' bo n' cap' Z') (a : U.Ap W W' ao bo) : GW w0 W' bo n' cap' Z' F := by
  refine ⟨hr, ⟨⟨a.grown.os.trans h.nw.1.os, a.grown.tape.trans h.nw.1.tape, a.grown.output.trans h.nw.1.output, Nat.le_trans h.nw.1.size a.grown.size, fun k hk => ?_⟩, fun k hk => ?_⟩, fun x hx => ⟨?_, ?_⟩⟩
  · refine (a.grown.block k (Nat.lt_of_lt_of_le hk h.nw.1.size) (fun e => ?_)).trans (h.nw.1.block k hk)
    have := h.nw.2 k e.symm
    omega
  · rcases a.lies with e | ⟨j, e, hj⟩
    · exact h.nw.2 k (by rw [← e]; exact hk)
    · rw [e] at hk
      have := Option.some.inj hk
      have := h.nw.1.size
      omega
  · exact (a.grown.block x.1 (h.lt x hx) (fun e => (h.keep x hx).2 e.symm)).trans (h.keep x hx).1
  · have hl := h.lt x hx
    rcases a.lies with e | ⟨j, e, hj⟩
    · rw [e]; exact (h.keep x hx).2
    · rw [e]
      intro ee
      have := Option.some.inj ee
      omega
theorem GW.below (h : GW w0 W ao n cap Z F) (b : Below W.heap.size W W') : GW w0 W' ao n cap Z F :=
  ⟨h.r.below b, ⟨h.nw.1.trans (b.mono h.nw.1.size), h.nw.2⟩, fun x hx => ⟨(b.block x.1 (h.lt x hx)).trans (h.keep x hx).1, (h.keep x hx).2⟩⟩
theorem GW.add (h : GW w0 W ao n cap Z F) (b : Below W.heap.size W W') {g : Nat} (hg : W.heap.size ≤ g) {ob : Obj} (hx : W'.heap[g]? = some ob) : GW w0 W' ao n cap Z ((g, ob) :: F) := by
  have hb := h.below b
  refine ⟨hb.r, hb.nw, fun x hx' => ?_⟩
  rcases List.mem_cons.1 hx' with rfl | hx'
  · exact ⟨hx, fun e => by have := h.r.lt g e; omega⟩
  · exact hb.keep x hx'
theorem GW.new (h : GW w0 W ao n cap Z F) (ob : Obj) : GW w0 (W.alloc ob) ao n cap Z ((W.heap.size, ob) :: F) := h.add (below_new W ob) (Nat.le_refl _) (heap_alloc_new W ob)
theorem GW.sub {F' : List (Nat × Obj)} (h : GW w0 W ao n cap Z F) (hs : ∀ x ∈ F', x ∈ F) : GW w0 W ao n cap Z F' := ⟨h.r, h.nw, fun x hx => h.keep x (hs x hx)⟩
theorem GW.pre {w1 : World} (b : Below w1.heap.size w1 w0) (h : GW w0 W ao n cap Z F) : GW w1 W ao n cap Z F := ⟨h.r, h.nw.pre b, h.keep⟩
/-- what is told of the last run -/
def LstOk (i : Nat) (rep hi : Int) (V : List Int) (T : Nat → Int) : Prop := ∀ r : Nat, rep ≤ (r : Int) → T r = if 0 < i ∧ (r : Int) = rep then hi else trl V r
theorem lst_start (V : List Int) (rep hi : Int) : LstOk 0 rep hi V (trl V) := fun r _ => by rw [if_neg (fun h => Nat.lt_irrefl 0 h.1)]
theorem LstOk.next {i : Nat} {rep hi : Int} {V : List Int} {T : Nat → Int} (h : LstOk i rep hi V T) (r : Nat) (hr : rep ≤ (r : Int)) (x : Int) : LstOk (i + 1) (r : Int) x V (upd T r x) := fun k hk => by
  unfold upd
  by_cases e : k = r
  · subst e
    rw [if_pos rfl, if_pos ⟨Nat.succ_pos _, rfl⟩]
  · rw [if_neg e, if_neg (fun h => e (by omega)), h k (by omega), if_neg (fun h => e (by omega))]
end Go.Proofs.YtbmjiedpaffifaaGreat
