/- LSor LSo2 LShg LCct -/
import Derived.Test.YtooinnhjeloocaaGreatLp39
import Derived.Lib.SliceRun
import Derived.Shelf.Spec.SlicesGrow
import Derived.Shelf.SlGeneric
import Derived.Test.YtooinnhjeloocaaGreatProg
import Derived.Laws.AppendOwnNone
import Derived.Deep.LoopGhost
namespace Go.Proofs.YtooinnhjeloocaaGreat.K
open Go.RowKit Go.Lib
attribute [local go_sem ↓] ld28_eq st28_eq
attribute [local go_sem] zero_EC cells_EV EC_size
/-- the first error of an entry -/
def firstE : List En → Int
  | [] => 0
  | e :: r => if ceE e = 0 then firstE r else ceE e
def okTo (L : List En) (k : Nat) : Prop := ∀ i, i < k → ceE (L.getD i en0) = 0
theorem firstE_ok (L : List En) (h : okTo L L.length) : firstE L = 0 := by
  induction L with
  | nil => rfl
  | cons e r ih =>
    have h0 := h 0 (by simp)
    simp [List.getD] at h0
    rw [firstE, if_pos h0]
    exact ih fun i hi => by have := h (i + 1) (by simpa using hi); simpa [List.getD] using this
theorem firstE_at (L : List En) (k : Nat) (hk : k < L.length) (h : okTo L k) (c : Int) (hc : ceE (L.getD k en0) = c) (h0 : c ≠ 0) : firstE L = c := by
  induction L generalizing k with
  | nil => simp at hk
  | cons e r ih =>
    cases k with
    | zero => simp [List.getD] at hc; rw [firstE, hc, if_neg h0]
    | succ k =>
      have h1 := h 0 (by omega)
      simp [List.getD] at h1
      rw [firstE, if_pos h1]
      exact ih k (by simpa using hk) (fun i hi => by have := h (i + 1) (by omega); simpa [List.getD] using this) (by simpa [List.getD] using hc)
/-- what Sort answers -/
def Sorted (L R : List En) (er : Int) : Prop := (firstE L ≠ 0 ∧ R = [] ∧ er = firstE L) ∨ (firstE L = 0 ∧ Settled L R er)
theorem Sorted.unique {L R R' : List En} {e e' : Int} (h : Sorted L R e) (h' : Sorted L R' e') : R = R' ∧ e = e' := by
  rcases h with ⟨a, b, c⟩ | ⟨a, b⟩
  · rcases h' with ⟨_, b', c'⟩ | ⟨a', _⟩
    · exact ⟨b.trans b'.symm, c.trans c'.symm⟩
    · exact absurd a' a
  · rcases h' with ⟨a', _⟩ | ⟨_, b'⟩
    · exact absurd a a'
    · exact b.unique b'
/-- a list and an error are handed back: the entries sorted -/
def GivesQ (w w' : World) (e : Ending) (L : List En) : Prop := ∃ ao n c R er, e = .returned (.tuple #[.slice ao n c, .int .i64 er]) ∧ ESrc w' ao n c R ∧ Below w.heap.size w w' ∧ (∀ ad, ao = some ad → w.heap.size ≤ ad.block) ∧ Sorted L R er
theorem ESrc.cells {w : World} {ad : Addr} {n cap : Nat} {L : List En} (hS : ESrc w (some ad) n cap L) (j : Nat) (u : Value) (hj : (ecs L)[j]? = some u) : w.cell? (ad.add j) = some u := by
  have hjl : j < L.length * 4 := by have := (List.getElem?_eq_some_iff.1 hj).1; rwa [ecs_length] at this
  have e4 := ecs_at L (j / 4) (j % 4) (by omega) (by omega)
  rw [show j / 4 * 4 + j % 4 = j by omega, hj] at e4
  have A := hS.2.2.1 ad rfl (j / 4) (by rw [← hS.1]; omega)
  have : j % 4 = 0 ∨ j % 4 = 1 ∨ j % 4 = 2 ∨ j % 4 = 3 := by omega
  rcases this with h | h | h | h
  · rw [h] at e4; rw [show j = j / 4 * 4 by omega, A.c0]; exact e4.symm
  · rw [h] at e4; have := A.c1; rw [add_add] at this; rw [show j = j / 4 * 4 + 1 by omega, this]; exact e4.symm
  · rw [h] at e4; have := A.c2; rw [add_add] at this; rw [show j = j / 4 * 4 + 2 by omega, this]; exact e4.symm
  · rw [h] at e4; have := A.c3; rw [add_add] at this; rw [show j = j / 4 * 4 + 3 by omega, this]; exact e4.symm
theorem ecs_onecell (L : List En) : ∀ u ∈ ecs L, u.oneCell' = true := by
  intro u hu
  obtain ⟨l, hl, hv⟩ := List.mem_flatten.1 hu
  obtain ⟨e, _, rfl⟩ := List.mem_map.1 hl
  exact EC_one e u hv
theorem OwnE.mr {B0 B : Nat} {w w' : World} {ad : Addr} {cap : Nat} {acc : List En} (O : OwnE B0 B w w' (some ad) cap acc) : MR w' ad acc.toArray ∧ acc.length ≤ cap ∧ cap ≤ 9223372036854775807 ∧ B ≤ ad.block := by
  rcases O.own.2 with ⟨h0, _⟩ | ⟨g, c, cur, hv, hbg, hgg, hnc, hcm, hcsz, htake⟩
  · cases h0
  · simp only [Value.slice.injEq, Option.some.injEq, true_and] at hv
    obtain ⟨rfl, rfl⟩ := hv
    refine ⟨⟨fun j hj => ?_, (Array.getElem?_eq_some_iff.1 hgg).1, rfl⟩, hnc, by unfold maxLen at hcm; omega, hbg⟩
    rw [Sort.size_flatK] at hj
    have hj' : j < acc.length * 4 := by simpa using hj
    refine ⟨?_, by simp [World.frozen?, hgg]⟩
    rw [Nat.zero_add, O.own.cellAt j (by omega), Sort.get_flatK _ _ _ _ hj]
    have e4 := ecs_at acc (j / 4) (j % 4) (by omega) (by omega)
    rw [show j / 4 * 4 + j % 4 = j by omega] at e4
    rw [e4]
    have e5 : acc.toArray[j / 4]! = acc.getD (j / 4) en0 := by
      rw [getElem!_pos acc.toArray (j / 4) (by simp; omega)]; simp [List.getD, show j / 4 < acc.length by omega]
    rw [e5]
    have : j % 4 = 0 ∨ j % 4 = 1 ∨ j % 4 = 2 ∨ j % 4 = 3 := by omega
    rcases this with h | h | h | h <;> rw [h] <;> rfl
end Go.Proofs.YtooinnhjeloocaaGreat.K
namespace Go.Proofs.YtooinnhjeloocaaGreat.K
open Go.RowKit Go.Lib
attribute [local go_sem ↓] ld28_eq st28_eq
attribute [local go_sem] zero_EC cells_EV EC_size
theorem sort_err (L : List En) (k : Nat) (c : Int) (hk : k < L.length) (h : okTo L k) (hc : ceE (L.getD k en0) = c) (h0 : c ≠ 0) : Sorted L [] c := by
  have := firstE_at L k hk h c hc h0
  exact Or.inl ⟨by rw [this]; exact h0, rfl, this.symm⟩
end Go.Proofs.YtooinnhjeloocaaGreat.K
namespace Go.Proofs
open Go.Shelf
def Tryz.growEn_ren : Go.Shelf.Ren := ⟨fun | 4 => 39 | n => n, fun | 22 => 22 | 25 => 36 | 3 => 3 | 4 => 4 | 9 => 9 | 20 => 20 | 0 => 0 | n => n, fun | n => n⟩
theorem Tryz.growEn : Go.Proofs.Lays8.n4 Tryz.prog Tryz.growEn_ren := {
  mixed := by kernel_rfl
  f4 := ⟨Tryz.f39.name, by decide, Tryz.func39.trans (congrArg some (by kernel_rfl))⟩
  t0 := Tryz.underlying0
  a0 := Tryz.isAgg0
  z0 := Tryz.sizeOf0
  v0 := Tryz.zeroValue0
  t3 := Tryz.underlying3
  a3 := Tryz.isAgg3
  z3 := Tryz.sizeOf3
  v3 := Tryz.zeroValue3
  t4 := Tryz.underlying4
  a4 := Tryz.isAgg4
  z4 := Tryz.sizeOf4
  v4 := Tryz.zeroValue4
  t9 := Tryz.underlying9
  a9 := Tryz.isAgg9
  z9 := Tryz.sizeOf9
  v9 := Tryz.zeroValue9
  t20 := Tryz.underlying20
  a20 := Tryz.isAgg20
  z20 := Tryz.sizeOf20
  v20 := Tryz.zeroValue20
  t22 := Tryz.underlying22
  a22 := Tryz.isAgg22
  z22 := Tryz.sizeOf22
  v22 := Tryz.zeroValue22 }
end Go.Proofs
namespace Go.Proofs.YtooinnhjeloocaaGreat.K
open Go.RowKit Go.Lib

theorem zc_size (n : Nat) : (Builtin.zeroCells (EC en0) n).size = n * 4 := by simp [Builtin.zeroCells, EC_size]
theorem below_drew1 (w : World) : Below w.heap.size w w.drew := ⟨rfl, rfl, rfl, Nat.le_refl _, fun _ _ => rfl⟩
theorem grow_nil (n : Nat) (w : World) (hn : n ≤ 3518437208883) : Calls Tryz.prog 39 #[.slice none 0 0, .int .i64 n] w fun e w' => ∃ ao c, e = .returned (.slice ao 0 c) ∧ OwnE w.heap.size w.heap.size w w' ao c [] := by
  by_cases h0 : n = 0
  · subst h0
    refine Calls.mono (Any8.slices_Grow_room Tryz.growEn none 0 0 0 w (Nat.le_refl _) (by omega) (by omega) (Nat.le_refl _)) ?_
    rintro e w' ⟨rfl, rfl⟩
    exact ⟨none, 0, rfl, OwnE.nil (Below.refl _ _) (Nat.le_refl _) (Nat.le_refl _)⟩
  · obtain ⟨i0, hi, hz0, hz1, hz2⟩ := info_parts info28
    have h := Any8.slices_Grow_grow Tryz.growEn i0 _ hi hz0 (by rw [hz1]; omega) none 0 0 n [] w (Nat.le_refl _) (by omega) (by rw [hz2]; omega) (by omega) (by simp) (fun _ => rfl) (fun a ha => by cases ha)
    rw [show Tryz.growEn_ren.t 25 = 36 from rfl] at h
    refine Calls.mono h ?_
    rintro e w' ⟨rfl, rfl⟩
    have hge := grownCap_ge w (0 + n) 0 36
    have hle := grownCap_le_maxLen w (0 + n) 0 36 (by unfold maxLen; omega)
    refine ⟨some ⟨w.heap.size, 0, none⟩, grownCap w (0 + n) 0 36, rfl, ⟨rfl, Or.inr ⟨w.heap.size, grownCap w (0 + n) 0 36, _, rfl, Nat.le_refl _, heap_alloc_new w.drew _, Nat.zero_le _, hle, ?_, by simp [ecs]⟩⟩, (below_drew1 w).trans ((below_new w.drew _).mono (Nat.le_refl _)), by simp, Nat.le_refl _⟩
    have hc : (Value.agg #[.int .i64 0, .int .i64 0, .string ⟨#[]⟩, .int .i64 0]).cells = EC en0 := by simp [Value.cells]; rfl
    rw [hc]
    simp only [Array.size_append, zc_size]
    rw [Nat.zero_add] at hge ⊢
    simp
    omega
/-- a whole row appended -/
theorem OwnE.appendAll {B0 B : Nat} {w w' : World} {ao : Option Addr} {cap : Nat} {acc : List En} (O : OwnE B0 B w w' ao cap acc) (bo : Option Addr) (m c : Nat) (R : List En) (hR : ESrc w' bo m c R) (hlen : acc.length + m ≤ 3518437208883)
    {ops : Array Oper} {rest : List Oper} {o : Oper} {a : Act} {Q : Exit → Act → World → Prop} (hgd : o.guard = none) (s x : Operand) (ho : o.op = .call { callee := .builtin .append, args := #[s, x], argTypes := #[22, 22] })
    (n : Nat) (hn : acc.length = n) (hs : a.eval s = .slice ao n cap) (hx : a.eval x = .slice bo m c)
    (hK : ∀ (ap : Option Addr) (cap2 : Nat) (w2 : World), OwnE B0 B w w2 ap cap2 (acc ++ R) → wpList Tryz.prog ops Q rest (a.put o.dst (.slice ap (n + m) cap2)) w2) :
    wpList Tryz.prog ops Q (o :: rest) a w' := by
  subst hn
  obtain ⟨i0, hi, hz0, hz1, hz2⟩ := info_parts info28
  have hB := O.hB
  have hB0 := O.hB0
  cases bo with
  | none =>
    obtain ⟨rfl, rfl⟩ := hR.2.1 rfl
    obtain rfl : R = [] := List.eq_nil_of_length_eq_zero hR.1
    refine wpList_append_own_none hgd s x 22 ho B 36 i0 4 Tryz.underlying22 hi _ acc.length (ecs acc) hs O.own hx ?_
    have := hK ao cap w' (by rw [List.append_nil]; exact O)
    exact this
  | some ad =>
    refine wpList_append_own _ hgd s x 22 ho B 36 i0 (.agg #[.int .i64 0, .int .i64 0, .string ⟨#[]⟩, .int .i64 0]) 4 40 Tryz.underlying22 hi hz0 hz1 hz2 rfl (by decide) _ acc.length (ecs acc) hs O.own ad m c (ecs R) hx (by rw [ecs_length, hR.1]) (fun j u hj => hR.cells j u hj) (ecs_onecell R) (by unfold maxLen; omega) (by omega) hB ?_
    intro v' w2 hown hgrow _
    have hrow : ∀ k, (Value.slice ao acc.length cap).ownBlock = some k → B ≤ k := fun k hk => (O.own.lt k hk).1
    have hsz := hgrow.size
    have hbel : Below B0 w w2 := O.below.grown hgrow (by omega) (fun k hk => by have := hrow k hk; omega)
    have hm : m = R.length := hR.1.symm
    have hown2 : w2.ownsRow B 36 4 v' (acc ++ R).length (ecs (acc ++ R)) := by rw [List.length_append, ecs_append, ← hm]; exact hown
    rcases hown.2 with ⟨h0, h00⟩ | ⟨g, cap2, cur, hv, r⟩
    · subst h0
      have e0 : acc.length + m = 0 := h00
      have := hK none 0 w2 ⟨by rw [List.length_append, ← hm, e0] at hown2; rw [List.length_append, ← hm, e0]; exact hown2, hbel, by omega, hB0⟩
      rwa [e0] at this
    · subst hv
      exact hK (some ⟨g, 0, none⟩) cap2 w2 ⟨by rw [List.length_append, ← hm] at hown2 ⊢; exact hown2, hbel, by omega, hB0⟩
set_option maxRecDepth 100000 in
set_option maxHeartbeats 4000000 in
theorem concat_any (gb : Nat) (ao bo : Option Addr) (n cap m cap' : Nat) (L R : List En) (w : World) (hS : ESrc w ao n cap L) (hR : ESrc w bo m cap' R) (c0 : w.cell? ⟨gb, 0, none⟩ = some (.slice ao n cap)) (c1 : w.cell? ⟨gb, 1, none⟩ = some (.slice bo m cap')) (hlen : n + m ≤ 3518437208883) :
    Calls Tryz.prog 22 #[.slice (some ⟨gb, 0, none⟩) 2 2] w fun e w' => ∃ ap c, e = .returned (.slice ap (n + m) c) ∧ OwnE w.heap.size w.heap.size w w' ap c (L ++ R) := by
  have HS := hide hS
  have HR := hide hR
  have HL : Hid (L.length = n) := hS.1
  have HLR : Hid (R.length = m) := hR.1
  have HC0 := hide c0
  have HC1 := hide c1
  clear hS hR
  go_enter Tryz.func22, Tryz.ntmps22
  go_wp2_with fail
  go_loopw [3, 5, 11] (fun s _ i wr => ∃ k z : Nat, k ≤ 2 ∧ s = .int .i64 z ∧ i = .int .i64 k ∧ z = (if k = 0 then 0 else if k = 1 then n else n + m) ∧ w = wr) (fun _ _ i _ => 2 - (intOf i).toNat)
  case atStart => exact ⟨0, 0, Nat.zero_le _, rfl, rfl, rfl, rfl⟩
  case round =>
    obtain ⟨k, z, hk, rfl, rfl, hz, rfl⟩ := hrel
    by_cases h2 : k = 2
    · subst h2
      simp at hz
      subst hz
      clear c0 c1
      go_wp2_with fail
      refine (grow_nil (n + m) _ hlen).mono ?_
      rintro e w3 ⟨a3, c3, rfl, O3⟩
      have HO3 := hide O3
      clear O3
      go_wp2_with fail
      go_loopw [6, 8, 27] (fun v _ i wr => ∃ (k : Nat) (ap : Option Addr) (c : Nat) (acc : List En), k ≤ 2 ∧ v = .slice ap acc.length c ∧ i = .int .i64 k ∧ Hid (acc = (if k = 0 then [] else if k = 1 then L else L ++ R) ∧ OwnE w.heap.size w.heap.size w wr ap c acc)) (fun _ _ i _ => 2 - (intOf i).toNat)
      case atStart => exact ⟨0, a3, c3, [], Nat.zero_le _, rfl, rfl, rfl, HO3.out⟩
      case round =>
        clear HO3
        obtain ⟨k, ap, c, acc, hk, rfl, rfl, H⟩ := hrel
        rename World => w4
        have d0 : w4.cell? ⟨gb, 0, none⟩ = some (.slice ao n cap) := by rw [H.out.2.below.cell (World.block_lt_of_cell? _ _ HC0.out)]; exact HC0.out
        have d1 : w4.cell? ⟨gb, 1, none⟩ = some (.slice bo m cap') := by rw [H.out.2.below.cell (World.block_lt_of_cell? _ _ HC1.out)]; exact HC1.out
        by_cases h2 : k = 2
        · subst h2
          have HF : Hid (∃ c', (Value.slice ap acc.length c : Value) = .slice ap (n + m) c' ∧ OwnE w.heap.size w.heap.size w w4 ap c' (L ++ R)) := by
            have e : acc = L ++ R := H.out.1
            rw [e, List.length_append, HL.out, HLR.out]
            exact ⟨c, rfl, by rw [← e]; exact H.out.2⟩
          clear d0 d1
          go_wp2_with fail
          go_ret
          obtain ⟨c', e1, e2⟩ := HF.out
          exact ⟨ap, c', by rw [e1]; rfl, e2⟩
        · by_cases h1 : k = 1
          · subst h1
            have e : acc = L := H.out.1
            have hal : acc.length = n := by rw [e]; exact HL.out
            have HR4 := hide (HR.out.below H.out.2.below)
            go_wp2_with (at_builtin; refine H.out.2.appendAll bo m cap' R HR4.out (by omega) rfl (.tmp 31) (.tmp 32) rfl acc.length rfl rfl rfl ?_; intro a5 c5 w5 O5)
            go_roundw
            case rel => exact ⟨1 + 1, a5, c5, acc ++ R, by omega, by simp [List.length_append, HLR.out, HL.out, e], by go_num, by rw [e]; rfl, O5⟩
            case measure => simp [intOf]
          · obtain rfl : k = 0 := by omega
            have e : acc = [] := H.out.1
            have hal : acc.length = 0 := by rw [e]; rfl
            have HS4 := hide (HS.out.below H.out.2.below)
            go_wp2_with (at_builtin; refine H.out.2.appendAll ao n cap L HS4.out (by omega) rfl (.tmp 31) (.tmp 32) rfl acc.length rfl rfl rfl ?_; intro a5 c5 w5 O5)
            go_roundw
            case rel => exact ⟨0 + 1, a5, c5, acc ++ L, by omega, by simp [HL.out, e], by go_num, by rw [e]; rfl, O5⟩
            case measure => simp [intOf]
    · by_cases h1 : k = 1
      · subst h1
        simp at hz
        subst hz
        go_wp2_with fail
        go_roundw
        case rel => exact ⟨1 + 1, z + m, by omega, by go_num, by go_num, rfl, trivial⟩
        case measure => simp [intOf]
      · obtain rfl : k = 0 := by omega
        simp at hz
        subst hz
        go_wp2_with fail
        go_roundw
        case rel => exact ⟨0 + 1, n, by omega, by go_num, by go_num, rfl, trivial⟩
        case measure => simp [intOf]
end Go.Proofs.YtooinnhjeloocaaGreat.K
