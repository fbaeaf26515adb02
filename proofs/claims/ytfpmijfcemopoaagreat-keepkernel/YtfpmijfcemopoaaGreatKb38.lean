/- LSor LSo2 LShg LCct LUp LUn LSp BBx BAq -/
import Derived.Test.YtfpmijfcemopoaaGreatTk
import Derived.Test.YtfpmijfcemopoaaGreatKb37
import Derived.Lib.SliceRun
import Derived.Shelf.Spec.SlicesGrow
import Derived.Test.YtfpmijfcemopoaaGreatProg
import Derived.Laws.AppendOwnNone
import Derived.Deep.LoopGhost
import Derived.Test.YtfpmijfcemopoaaGreatKb17
import Derived.Test.YtfpmijfcemopoaaGreatKb22
import Derived.Test.YtfpmijfcemopoaaGreatKb28
import Derived.Test.YtfpmijfcemopoaaGreatKb31
import Derived.Test.YtfpmijfcemopoaaGreatKb35
import Derived.Test.YtfpmijfcemopoaaGreatKb36
import Derived.Deep.CutRange
namespace Go.Proofs.YtfpmijfcemopoaaGreat.K
open Go.RowKit Go.Lib
attribute [local go_sem ↓] ld28_eq st28_eq
attribute [local go_sem] zero_EC cells_EV EC_size
def firstE : List En → Int
 | [] => 0
 | e :: r => if ceE e = 0 then firstE r else ceE e
def okTo (L : List En) (k : Nat) : Prop := ∀ i, i < k → ceE (L.getD i en0) = 0
def Sorted (L R : List En) (er : Int) : Prop := (firstE L ≠ 0 ∧ R = [] ∧ er = firstE L) ∨ (firstE L = 0 ∧ Settled L R er)
theorem Sorted.unique {L R R' : List En} {e e' : Int} (h : Sorted L R e) (h' : Sorted L R' e') : R = R' ∧ e = e' := by
 rcases h with ⟨a, b, c⟩ | ⟨a, b⟩
 ·rcases h' with ⟨_, b', c'⟩ | ⟨a', _⟩
  ·exact ⟨b.trans b'.symm, c.trans c'.symm⟩
  ·exact absurd a' a
 ·rcases h' with ⟨a', _⟩ | ⟨_, b'⟩
  ·exact absurd a a'
  ·exact b.unique b'
def GivesQ (w w' : World) (e : Ending) (L : List En) : Prop := ∃ ao n c R er, e = .returned (.tuple #[.slice ao n c, .int .i64 er]) ∧ ESrc w' ao n c R ∧ Below w.heap.size w w' ∧ (∀ ad, ao = some ad → w.heap.size ≤ ad.block) ∧ Sorted L R er
theorem ESrc.cells {w : World} {ad : Addr} {n cap : Nat} {L : List En} (hS : ESrc w (some ad) n cap L) (j : Nat) (u : Value) (hj : (ecs L)[j]? = some u) : w.cell? (ad.add j) = some u := by
 have hjl : j < L.length * 4 := by have := (List.getElem?_eq_some_iff.1 hj).1; rwa [ecs_length] at this
 have e4 := ecs_at L (j / 4) (j % 4) (by omega) (by omega)
 rw [show j / 4 * 4 + j % 4 = j by omega, hj] at e4
 have A := hS.2.2.1 ad rfl (j / 4) (by rw [← hS.1]; omega)
 have : j % 4 = 0 ∨ j % 4 = 1 ∨ j % 4 = 2 ∨ j % 4 = 3 := by omega
 rcases this with h | h | h | h
 ·rw [h] at e4; rw [show j = j / 4 * 4 by omega, A.c0]; exact e4.symm
 ·rw [h] at e4; have := A.c1; rw [add_add] at this; rw [show j = j / 4 * 4 + 1 by omega, this]; exact e4.symm
 ·rw [h] at e4; have := A.c2; rw [add_add] at this; rw [show j = j / 4 * 4 + 2 by omega, this]; exact e4.symm
 ·rw [h] at e4; have := A.c3; rw [add_add] at this; rw [show j = j / 4 * 4 + 3 by omega, this]; exact e4.symm
theorem ecs_onecell (L : List En) : ∀ u ∈ ecs L, u.oneCell' = true := by
 intro u hu
 obtain ⟨l, hl, hv⟩ := List.mem_flatten.1 hu
 obtain ⟨e, _, rfl⟩ := List.mem_map.1 hl
 exact EC_one e u hv
theorem clone_any (ad : Addr) (n cap : Nat) (L : List En) (w : World) (hS : ESrc w (some ad) n cap L) :
  Calls Tryz.prog 56 #[.slice (some ad) n cap] w fun e w' => ∃ ao c, e = .returned (.slice ao n c) ∧ OwnE w.heap.size w.heap.size w w' ao c L := by
 obtain ⟨i0, hi, hz0, hz1, hz2⟩ := info_parts info28
 have q22 : ∀ w, (binOp .eql 23 (.slice (some ad) n cap) (.slice none 0 0)).run Tryz.prog w = .ok (.bool false) w := fun w => Lib.run_eql_slice_nil w _ _ (some ad) n cap 0 0 Tryz.underlying23
 have HS := hide hS
 clear hS
 go_enter Tryz.func56, Tryz.ntmps56
 go_wp2_with (at_builtin; refine wpList_append_own _ rfl _ _ 23 rfl w.heap.size 49 i0 (.agg #[.int .i64 0, .int .i64 0, .string ⟨#[]⟩, .int .i64 0]) 4 40 Tryz.underlying23 hi hz0 hz1 hz2 rfl (by decide) _ _ _ rfl (World.ownsRow_made w #[] 0 (Nat.le_refl _) (Nat.zero_le _) (by simp)) ad n cap (ecs L) rfl ?qc1 ?qc2 ?qc3 ?qc4 ?qc5 ?qc6 ?_)
 case qc1 => rw [ecs_length, HS.out.1]
 case qc2 =>
  intro j u hj
  have := HS.out.cells j u hj
  rw [(below_new w _).cell (World.block_lt_of_cell? _ _ this)]
  exact this
 case qc3 => exact ecs_onecell L
 case qc4 => rw [Nat.zero_add]; unfold maxLen; have := HS.out.2.2.2.2; omega
 case qc5 => rw [Nat.zero_add]; have := HS.out.2.2.2.2; omega
 case qc6 => simp
 intro v' w1 hown hgrow hnil
 have hown' : w1.ownsRow w.heap.size 49 4 v' n (ecs L) := by simpa using hown
 have hb : Below w.heap.size w w1 := ((Below.refl _ w).alloc (Nat.le_refl _) _).grown hgrow (by simp) (by intro k hk; simp [Value.ownBlock] at hk; omega)
 have HF : Hid (∃ ao c, v' = .slice ao n c ∧ OwnE w.heap.size w.heap.size w w1 ao c L) := by
  rcases hown'.2 with ⟨h0, _⟩ | ⟨g, c, cur, rfl, r⟩
  ·exact absurd h0 hnil
  ·exact ⟨some ⟨g, 0, none⟩, c, rfl, by rw [HS.out.1]; exact hown', hb, hb.size, Nat.le_refl _⟩
 clear hown hown' hgrow hnil hb
 go_wp2_with fail
 go_ret
 obtain ⟨ao, c, rfl, h⟩ := HF.out
 exact ⟨ao, c, rfl, h⟩
theorem clone_nil (w : World) : Calls Tryz.prog 56 #[.slice none 0 0] w fun e w' => e = .returned (.slice none 0 0) ∧ w' = w := by
 have q22 : ∀ w, (binOp .eql 23 (.slice none 0 0) (.slice none 0 0)).run Tryz.prog w = .ok (.bool true) w := fun w => Lib.run_eql_slice_nil w _ _ none 0 0 0 0 Tryz.underlying23
 go_enter Tryz.func56, Tryz.ntmps56
 go_wp2_with fail
 go_ret
 exact ⟨rfl, rfl⟩
theorem OwnE.mr {B0 B : Nat} {w w' : World} {ad : Addr} {cap : Nat} {acc : List En} (O : OwnE B0 B w w' (some ad) cap acc) : MR w' ad acc.toArray ∧ acc.length ≤ cap ∧ cap ≤ 9223372036854775807 ∧ B ≤ ad.block := by
 rcases O.own.2 with ⟨h0, _⟩ | ⟨g, c, cur, hv, hbg, hgg, hnc, hcm, hcsz, htake⟩
 ·cases h0
 ·simp only [Value.slice.injEq, Option.some.injEq, true_and] at hv
  obtain ⟨rfl, rfl⟩ := hv
  refine ⟨⟨fun j hj => ?_, (Array.getElem?_eq_some_iff.1 hgg).1, rfl⟩, hnc, by unfold maxLen at hcm; omega, hbg⟩
  rw [Sort.size_flatK] at hj
  have hj' : j < acc.length * 4 := by simpa using hj
  refine ⟨?_, by simp [World.frozen?, hgg]⟩
  rw [Nat.zero_add, O.own.cellAt j (by omega), Sort.get_flatK _ _ _ _ hj]
  have e4 := ecs_at acc (j / 4) (j % 4) (by omega) (by omega)
  rw [show j / 4 * 4 + j % 4 = j by omega] at e4
  rw [e4]
  have e5 : acc.toArray[j / 4]! = acc.getD (j / 4) en0 := by
   rw [getElem!_pos acc.toArray (j / 4) (by simp; omega)]; simp [List.getD, show j / 4 < acc.length by omega]
  rw [e5]
  have : j % 4 = 0 ∨ j % 4 = 1 ∨ j % 4 = 2 ∨ j % 4 = 3 := by omega
  rcases this with h | h | h | h <;> rw [h] <;> rfl
end Go.Proofs.YtfpmijfcemopoaaGreat.K
namespace Go.Proofs.YtfpmijfcemopoaaGreat.K
open Go.RowKit Go.Lib
attribute [local go_sem ↓] ld28_eq st28_eq
attribute [local go_sem] zero_EC cells_EV EC_size
end Go.Proofs.YtfpmijfcemopoaaGreat.K
namespace Go.Proofs
open Go.Shelf
def Tryz.growEn_ren : Go.Shelf.Ren := ⟨fun | 4 => 160 | n => n, fun | 22 => 23 | 25 => 49 | 3 => 3 | 4 => 4 | 9 => 9 | 20 => 20 | 0 => 0 | n => n, fun | n => n⟩
theorem Tryz.growEn : Go.Proofs.Lays8.n4 Tryz.prog Tryz.growEn_ren := {
 mixed := by kernel_rfl
 f4 := ⟨Tryz.f160.name, by decide, Tryz.func160.trans (congrArg some (by kernel_rfl))⟩
 t0 := Tryz.underlying0
 a0 := Tryz.isAgg0
 z0 := Tryz.sizeOf0
 v0 := Tryz.zeroValue0
 t3 := Tryz.underlying3
 a3 := Tryz.isAgg3
 z3 := Tryz.sizeOf3
 v3 := Tryz.zeroValue3
 t4 := Tryz.underlying4
 a4 := Tryz.isAgg4
 z4 := Tryz.sizeOf4
 v4 := Tryz.zeroValue4
 t9 := Tryz.underlying9
 a9 := Tryz.isAgg9
 z9 := Tryz.sizeOf9
 v9 := Tryz.zeroValue9
 t20 := Tryz.underlying20
 a20 := Tryz.isAgg20
 z20 := Tryz.sizeOf20
 v20 := Tryz.zeroValue20
 t22 := Tryz.underlying23
 a22 := Tryz.isAgg23
 z22 := Tryz.sizeOf23
 v22 := Tryz.zeroValue23 }
end Go.Proofs
namespace Go.Proofs.YtfpmijfcemopoaaGreat.K
open Go.RowKit Go.Lib

theorem zc_size (n : Nat) : (Builtin.zeroCells (EC en0) n).size = n * 4 := by simp [Builtin.zeroCells, EC_size]
theorem below_drew1 (w : World) : Below w.heap.size w w.drew := ⟨rfl, rfl, rfl, Nat.le_refl _, fun _ _ => rfl⟩
theorem grow_nil (n : Nat) (w : World) (hn : n ≤ 3518437208883) : Calls Tryz.prog 160 #[.slice none 0 0, .int .i64 n] w fun e w' => ∃ ao c, e = .returned (.slice ao 0 c) ∧ OwnE w.heap.size w.heap.size w w' ao c [] := by
 by_cases h0 : n = 0
 ·subst h0
  refine Calls.mono (Any8.slices_Grow_room Tryz.growEn none 0 0 0 w (Nat.le_refl _) (by omega) (by omega) (Nat.le_refl _)) ?_
  rintro e w' ⟨rfl, rfl⟩
  exact ⟨none, 0, rfl, OwnE.nil (Below.refl _ _) (Nat.le_refl _) (Nat.le_refl _)⟩
 ·obtain ⟨i0, hi, hz0, hz1, hz2⟩ := info_parts info28
  have h := Any8.slices_Grow_grow Tryz.growEn i0 _ hi hz0 (by rw [hz1]; omega) none 0 0 n [] w (Nat.le_refl _) (by omega) (by rw [hz2]; omega) (by omega) (by simp) (fun _ => rfl) (fun a ha => by cases ha)
  rw [show Tryz.growEn_ren.t 25 = 49 from rfl] at h
  refine Calls.mono h ?_
  rintro e w' ⟨rfl, rfl⟩
  have hge := grownCap_ge w (0 + n) 0 49
  have hle := grownCap_le_maxLen w (0 + n) 0 49 (by unfold maxLen; omega)
  refine ⟨some ⟨w.heap.size, 0, none⟩, grownCap w (0 + n) 0 49, rfl, ⟨rfl, Or.inr ⟨w.heap.size, grownCap w (0 + n) 0 49, _, rfl, Nat.le_refl _, heap_alloc_new w.drew _, Nat.zero_le _, hle, ?_, by simp [ecs]⟩⟩, (below_drew1 w).trans ((below_new w.drew _).mono (Nat.le_refl _)), by simp, Nat.le_refl _⟩
  have hc : (Value.agg #[.int .i64 0, .int .i64 0, .string ⟨#[]⟩, .int .i64 0]).cells = EC en0 := by simp [Value.cells]; rfl
  rw [hc]
  simp only [Array.size_append, zc_size]
  rw [Nat.zero_add] at hge ⊢
  simp
  omega
theorem OwnE.appendAll {B0 B : Nat} {w w' : World} {ao : Option Addr} {cap : Nat} {acc : List En} (O : OwnE B0 B w w' ao cap acc) (bo : Option Addr) (m c : Nat) (R : List En) (hR : ESrc w' bo m c R) (hlen : acc.length + m ≤ 3518437208883)
  {ops : Array Oper} {rest : List Oper} {o : Oper} {a : Act} {Q : Exit → Act → World → Prop} (hgd : o.guard = none) (s x : Operand) (ho : o.op = .call { callee := .builtin .append, args := #[s, x], argTypes := #[23, 23] })
  (n : Nat) (hn : acc.length = n) (hs : a.eval s = .slice ao n cap) (hx : a.eval x = .slice bo m c)
  (hK : ∀ (ap : Option Addr) (cap2 : Nat) (w2 : World), OwnE B0 B w w2 ap cap2 (acc ++ R) → wpList Tryz.prog ops Q rest (a.put o.dst (.slice ap (n + m) cap2)) w2) :
  wpList Tryz.prog ops Q (o :: rest) a w' := by
 subst hn
 obtain ⟨i0, hi, hz0, hz1, hz2⟩ := info_parts info28
 have hB := O.hB
 have hB0 := O.hB0
 cases bo with
 | none =>
  obtain ⟨rfl, rfl⟩ := hR.2.1 rfl
  obtain rfl : R = [] := List.eq_nil_of_length_eq_zero hR.1
  refine wpList_append_own_none hgd s x 23 ho B 49 i0 4 Tryz.underlying23 hi _ acc.length (ecs acc) hs O.own hx ?_
  have := hK ao cap w' (by rw [List.append_nil]; exact O)
  exact this
 | some ad =>
  refine wpList_append_own _ hgd s x 23 ho B 49 i0 (.agg #[.int .i64 0, .int .i64 0, .string ⟨#[]⟩, .int .i64 0]) 4 40 Tryz.underlying23 hi hz0 hz1 hz2 rfl (by decide) _ acc.length (ecs acc) hs O.own ad m c (ecs R) hx (by rw [ecs_length, hR.1]) (fun j u hj => hR.cells j u hj) (ecs_onecell R) (by unfold maxLen; omega) (by omega) hB ?_
  intro v' w2 hown hgrow _
  have hrow : ∀ k, (Value.slice ao acc.length cap).ownBlock = some k → B ≤ k := fun k hk => (O.own.lt k hk).1
  have hsz := hgrow.size
  have hbel : Below B0 w w2 := O.below.grown hgrow (by omega) (fun k hk => by have := hrow k hk; omega)
  have hm : m = R.length := hR.1.symm
  have hown2 : w2.ownsRow B 49 4 v' (acc ++ R).length (ecs (acc ++ R)) := by rw [List.length_append, ecs_append, ← hm]; exact hown
  rcases hown.2 with ⟨h0, h00⟩ | ⟨g, cap2, cur, hv, r⟩
  ·subst h0
   have e0 : acc.length + m = 0 := h00
   have := hK none 0 w2 ⟨by rw [List.length_append, ← hm, e0] at hown2; rw [List.length_append, ← hm, e0]; exact hown2, hbel, by omega, hB0⟩
   rwa [e0] at this
  ·subst hv
   exact hK (some ⟨g, 0, none⟩) cap2 w2 ⟨by rw [List.length_append, ← hm] at hown2 ⊢; exact hown2, hbel, by omega, hB0⟩
set_option maxRecDepth 100000 in
set_option maxHeartbeats 4000000 in
theorem concat_any (gb : Nat) (ao bo : Option Addr) (n cap m cap' : Nat) (L R : List En) (w : World) (hS : ESrc w ao n cap L) (hR : ESrc w bo m cap' R) (c0 : w.cell? ⟨gb, 0, none⟩ = some (.slice ao n cap)) (c1 : w.cell? ⟨gb, 1, none⟩ = some (.slice bo m cap')) (hlen : n + m ≤ 3518437208883) :
  Calls Tryz.prog 121 #[.slice (some ⟨gb, 0, none⟩) 2 2] w fun e w' => ∃ ap c, e = .returned (.slice ap (n + m) c) ∧ OwnE w.heap.size w.heap.size w w' ap c (L ++ R) := by
 have HS := hide hS
 have HR := hide hR
 have HL : Hid (L.length = n) := hS.1
 have HLR : Hid (R.length = m) := hR.1
 have HC0 := hide c0
 have HC1 := hide c1
 clear hS hR
 go_enter Tryz.func121, Tryz.ntmps121
 go_wp2_with fail
 go_loopw [3, 5, 11] (fun s _ i wr => ∃ k z : Nat, k ≤ 2 ∧ s = .int .i64 z ∧ i = .int .i64 k ∧ z = (if k = 0 then 0 else if k = 1 then n else n + m) ∧ w = wr) (fun _ _ i _ => 2 - (intOf i).toNat)
 case atStart => exact ⟨0, 0, Nat.zero_le _, rfl, rfl, rfl, rfl⟩
 case round =>
  obtain ⟨k, z, hk, rfl, rfl, hz, rfl⟩ := hrel
  by_cases h2 : k = 2
  ·subst h2
   simp at hz
   subst hz
   clear c0 c1
   go_wp2_with fail
   refine (grow_nil (n + m) _ hlen).mono ?_
   rintro e w3 ⟨a3, c3, rfl, O3⟩
   have HO3 := hide O3
   clear O3
   go_wp2_with fail
   go_loopw [6, 8, 27] (fun v _ i wr => ∃ (k : Nat) (ap : Option Addr) (c : Nat) (acc : List En), k ≤ 2 ∧ v = .slice ap acc.length c ∧ i = .int .i64 k ∧ Hid (acc = (if k = 0 then [] else if k = 1 then L else L ++ R) ∧ OwnE w.heap.size w.heap.size w wr ap c acc)) (fun _ _ i _ => 2 - (intOf i).toNat)
   case atStart => exact ⟨0, a3, c3, [], Nat.zero_le _, rfl, rfl, rfl, HO3.out⟩
   case round =>
    clear HO3
    obtain ⟨k, ap, c, acc, hk, rfl, rfl, H⟩ := hrel
    rename World => w4
    have d0 : w4.cell? ⟨gb, 0, none⟩ = some (.slice ao n cap) := by rw [H.out.2.below.cell (World.block_lt_of_cell? _ _ HC0.out)]; exact HC0.out
    have d1 : w4.cell? ⟨gb, 1, none⟩ = some (.slice bo m cap') := by rw [H.out.2.below.cell (World.block_lt_of_cell? _ _ HC1.out)]; exact HC1.out
    by_cases h2 : k = 2
    ·subst h2
     have HF : Hid (∃ c', (Value.slice ap acc.length c : Value) = .slice ap (n + m) c' ∧ OwnE w.heap.size w.heap.size w w4 ap c' (L ++ R)) := by
      have e : acc = L ++ R := H.out.1
      rw [e, List.length_append, HL.out, HLR.out]
      exact ⟨c, rfl, by rw [← e]; exact H.out.2⟩
     clear d0 d1
     go_wp2_with fail
     go_ret
     obtain ⟨c', e1, e2⟩ := HF.out
     exact ⟨ap, c', by rw [e1]; rfl, e2⟩
    ·by_cases h1 : k = 1
     ·subst h1
      have e : acc = L := H.out.1
      have hal : acc.length = n := by rw [e]; exact HL.out
      have HR4 := hide (HR.out.below H.out.2.below)
      go_wp2_with (at_builtin; refine H.out.2.appendAll bo m cap' R HR4.out (by omega) rfl (.tmp 31) (.tmp 32) rfl acc.length rfl rfl rfl ?_; intro a5 c5 w5 O5)
      go_roundw
      case rel => exact ⟨1 + 1, a5, c5, acc ++ R, by omega, by simp [List.length_append, HLR.out, HL.out, e], by go_num, by rw [e]; rfl, O5⟩
      case measure => simp [intOf]
     ·obtain rfl : k = 0 := by omega
      have e : acc = [] := H.out.1
      have hal : acc.length = 0 := by rw [e]; rfl
      have HS4 := hide (HS.out.below H.out.2.below)
      go_wp2_with (at_builtin; refine H.out.2.appendAll ao n cap L HS4.out (by omega) rfl (.tmp 31) (.tmp 32) rfl acc.length rfl rfl rfl ?_; intro a5 c5 w5 O5)
      go_roundw
      case rel => exact ⟨0 + 1, a5, c5, acc ++ L, by omega, by simp [HL.out, e], by go_num, by rw [e]; rfl, O5⟩
      case measure => simp [intOf]
  ·by_cases h1 : k = 1
   ·subst h1
    simp at hz
    subst hz
    go_wp2_with fail
    go_roundw
    case rel => exact ⟨1 + 1, z + m, by omega, by go_num, by go_num, rfl, trivial⟩
    case measure => simp [intOf]
   ·obtain rfl : k = 0 := by omega
    simp at hz
    subst hz
    go_wp2_with fail
    go_roundw
    case rel => exact ⟨0 + 1, n, by omega, by go_num, by go_num, rfl, trivial⟩
    case measure => simp [intOf]
end Go.Proofs.YtfpmijfcemopoaaGreat.K
namespace Go.Proofs.YtfpmijfcemopoaaGreat.K
open Go.RowKit

def code (e : En) : Int := e.rep * 1000000000 + e.num
theorem code_lt {x y : En} (hx : ceE x = 0) (hy : ceE y = 0) (h : ahead x y = true) : code x < code y := by
 have bx : ∀ z : En, ceE z = 0 → (0 ≤ z.rep ∧ z.rep < 16) ∧ 1 ≤ z.num ∧ z.num ≤ 1000000000 := by
  intro z hz
  unfold ceE at hz
  by_cases h1 : isR z.rep = false
  ·rw [if_pos h1] at hz; omega
  ·rw [if_neg h1] at hz
   by_cases h2 : z.num < 1 ∨ 1000000000 < z.num
   ·rw [if_pos h2] at hz; omega
   ·have h1' : isR z.rep = true := by simpa using h1
    unfold isR at h1'
    simp at h1'
    exact ⟨h1', by omega, by omega⟩
 have b1 := bx x hx
 have b2 := bx y hy
 simp [ahead] at h
 unfold code
 omega
theorem code_bd {z : En} (hz : ceE z = 0) : 1 ≤ code z ∧ code z ≤ 16000000000 := by
 unfold ceE at hz
 by_cases h1 : isR z.rep = false
 ·rw [if_pos h1] at hz; omega
 ·rw [if_neg h1] at hz
  by_cases h2 : z.num < 1 ∨ 1000000000 < z.num
  ·rw [if_pos h2] at hz; omega
  ·have h1' : isR z.rep = true := by simpa using h1
   unfold isR at h1'
   simp at h1'
   unfold code
   omega
theorem okN_at (L : List En) (n : Nat) (h : okN L n = true) (k : Nat) (hk : k < n) : okAt L k = true := by
 unfold okN at h
 exact List.all_eq_true.1 h k (List.mem_range.2 hk)
theorem chk_zero {L : List En} (h : chk L = 0) : okN L L.length = true := by
 unfold chk at h
 by_cases e : okN L L.length = true
 ·exact e
 ·rw [if_neg e] at h; omega
theorem chk_len {L : List En} (h : chk L = 0) : L.length ≤ 16000000000 := by
 have ho := chk_zero h
 have key : ∀ k, k < L.length → ((k : Nat) : Int) + 1 ≤ code (L.getD k en0) := by
  intro k
  induction k with
  | zero =>
   intro hk
   have := okN_at L _ ho 0 hk
   simp [okAt] at this
   have := code_bd this
   simpa using this.1
  | succ k ih =>
   intro hk
   have h1 := okN_at L _ ho (k + 1) hk
   have h0 := okN_at L _ ho k (by omega)
   simp only [okAt, Bool.and_eq_true, beq_iff_eq, Bool.or_eq_true, decide_eq_true_eq, Nat.add_sub_cancel] at h0 h1
   have ha : ahead (L.getD k en0) (L.getD (k + 1) en0) = true := by
    rcases h1.2 with e | e
    ·omega
    ·exact e
   have := code_lt h0.1 h1.1 ha
   have := ih (by omega)
   omega
 rcases Nat.eq_zero_or_pos L.length with h0 | h0
 ·omega
 ·have h1 := key (L.length - 1) (by omega)
  have h2 := okN_at L _ ho (L.length - 1) (by omega)
  simp only [okAt, Bool.and_eq_true, beq_iff_eq] at h2
  have := (code_bd h2.1).2
  omega
end Go.Proofs.YtfpmijfcemopoaaGreat.K
namespace Go.Proofs.YtfpmijfcemopoaaGreat.K
open Go.RowKit Go.Lib
attribute [local go_sem ↓] ld28_eq st28_eq
attribute [local go_sem] zero_EC cells_EV EC_size fold_EC
def UnionOf (A B R : List En) (er : Int) : Prop := (¬ (chk A = 0 ∧ chk B = 0) ∧ R = [] ∧ er = 1) ∨ ((chk A = 0 ∧ chk B = 0) ∧ Settled (A ++ B) R er)
theorem UnionOf.unique {A B R R' : List En} {e e' : Int} (h : UnionOf A B R e) (h' : UnionOf A B R' e') : R = R' ∧ e = e' := by
 rcases h with ⟨a, b, c⟩ | ⟨a, b⟩
 ·rcases h' with ⟨_, b', c'⟩ | ⟨a', _⟩
  ·exact ⟨b.trans b'.symm, c.trans c'.symm⟩
  ·exact absurd a' a
 ·rcases h' with ⟨a', _⟩ | ⟨_, b'⟩
  ·exact absurd a a'
  ·exact b.unique b'
def GivesU (w w' : World) (e : Ending) (A B : List En) : Prop := ∃ ao n c R er, e = .returned (.tuple #[.slice ao n c, .int .i64 er]) ∧ ESrc w' ao n c R ∧ Below w.heap.size w w' ∧ UnionOf A B R er
theorem unionBad {w w' : World} {A B : List En} (h : ¬ (chk A = 0 ∧ chk B = 0)) (hb : Below w.heap.size w w') : GivesU w w' (.returned (.tuple #[.slice none 0 0, .int .i64 1])) A B :=
 ⟨none, 0, 0, [], 1, rfl, ESrc.none _, hb, Or.inl ⟨h, rfl, rfl⟩⟩
set_option maxRecDepth 100000 in
set_option maxHeartbeats 4000000 in
theorem union_any (ao bo : Option Addr) (n cap m cap' : Nat) (A B : List En) (w : World) (hS : ESrc w ao n cap A) (hR : ESrc w bo m cap' B) :
  Calls Tryz.prog 72 #[.slice ao n cap, .slice bo m cap'] w fun e w' => GivesU w w' e A B := by
 have HS := hide hS
 have HR := hide hR
 clear hS hR
 obtain ⟨p, Hp⟩ : ∃ p, Hid (chk A = p) := ⟨_, rfl⟩
 obtain ⟨q, Hq⟩ : ∃ q, Hid (chk B = q) := ⟨_, rfl⟩
 by_cases h1 : p = 0
 ·by_cases h2 : q = 0
  ·have HA : Hid (chk A = 0 ∧ chk B = 0) := ⟨Hp.out.trans h1, Hq.out.trans h2⟩
   have d1 : (p != 0) = false := by simpa using h1
   have d2 : (q != 0) = false := by simpa using h2
   have hlen : n + m ≤ 3518437208883 := by
    have l1 := chk_len HA.out.1
    have l2 := chk_len HA.out.2
    rw [HS.out.1] at l1
    rw [HR.out.1] at l2
    omega
   clear h1 h2
   go_enter Tryz.func72, Tryz.ntmps72
   go_wp2_with fail
   refine (lcheck_any ao n cap A _ HS.out).mono ?_
   rintro e w1 ⟨rfl, b1⟩
   rw [Hp.out]
   have HB1 := hide b1
   clear b1
   go_wp2_with fail
   refine (lcheck_any bo m cap' B _ (HR.out.below HB1.out)).mono ?_
   rintro e w2 ⟨rfl, b2⟩
   rw [Hq.out]
   have HB2 := hide (HB1.out.trans (b2.mono HB1.out.size))
   clear b2
   go_wp2_with fail
   have B3 := below_new w2 (.cells #[.slice ao n cap, .slice bo m cap'] 23)
   have k0 : (w2.alloc (.cells #[.slice ao n cap, .slice bo m cap'] 23)).cell? ⟨w2.heap.size, 0, none⟩ = some (.slice ao n cap) := by simp
   have k1 : (w2.alloc (.cells #[.slice ao n cap, .slice bo m cap'] 23)).cell? ⟨w2.heap.size, 1, none⟩ = some (.slice bo m cap') := by simp
   have HB3 := hide (HB2.out.trans (B3.mono HB2.out.size))
   refine (concat_any w2.heap.size ao bo n cap m cap' A B _ (HS.out.below HB3.out) (HR.out.below HB3.out) k0 k1 hlen).mono ?_
   rintro e w4 ⟨a4, c4, rfl, O4⟩
   have HO4 := hide O4
   have HB4 := hide (HB3.out.trans (O4.below.mono HB3.out.size))
   have HZ : Hid (w.heap.size ≤ (w2.alloc (.cells #[.slice ao n cap, .slice bo m cap'] 23)).heap.size) := HB3.out.size
   have hsk : ∀ e ∈ A ++ B, e.sku.size ≤ maxLen := fun e he => by
    rcases List.mem_append.1 he with h | h
    ·exact HS.out.2.2.2.1 e h
    ·exact HR.out.2.2.2.1 e h
   have HSK := hide hsk
   have HLL : Hid ((A ++ B).length = n + m) := by show _ = _; rw [List.length_append, HS.out.1, HR.out.1]
   clear O4 B3 k0 k1 hsk
   cases a4 with
   | none =>
    obtain ⟨S4, _⟩ := HO4.out.src HSK.out (by rw [HLL.out]; exact hlen)
    obtain ⟨e1, rfl⟩ := S4.2.1 rfl
    have HE : Hid (A ++ B = []) := List.eq_nil_of_length_eq_zero e1
    have hnm : n + m = 0 := by rw [← HLL.out]; exact e1
    rw [hnm]
    clear S4 e1
    go_wp2_with fail
    refine (rising0 none 0 _).mono ?_
    rintro e w6 ⟨rfl, b6⟩
    have HN : Hid (GivesU w w6 (.returned (.tuple #[.slice none 0 0, .int .i64 0])) A B) := ⟨none, 0, 0, [], 0, rfl, ESrc.none _, HB4.out.trans (b6.mono HB4.out.size), Or.inr ⟨HA.out, by rw [HE.out]; exact settled_nil⟩⟩
    clear b6
    go_wp2_with fail
    go_ret2
    exact HN.out
   | some a4 =>
    obtain ⟨M4, hc1, hc2, hbb⟩ := HO4.out.mr
    have HM4 := hide M4
    have HC1 : Hid (n + m ≤ c4) := by show _ ≤ _; rw [← HLL.out]; exact hc1
    have HC2 := hide hc2
    have HBB : Hid (w.heap.size ≤ a4.block) := Nat.le_trans HZ.out hbb
    clear M4 hc1 hc2 hbb
    go_wp2_with fail
    refine (rising_any a4 c4 (n + m) (A ++ B).toArray _ HM4.out (by rw [List.size_toArray]; exact HLL.out) hlen HC1.out HC2.out (by simpa using HSK.out)).mono ?_
    rintro e w6 ⟨a6, n6, c6, R6, er, rfl, S6, b6, f6, t6⟩
    have HN : Hid (GivesU w w6 (.returned (.tuple #[.slice a6 n6 c6, .int .i64 er])) A B) :=
     ⟨a6, n6, c6, R6, er, rfl, S6, HB4.out.trans (b6.mono HBB.out), Or.inr ⟨HA.out, by simpa using t6⟩⟩
    clear S6 b6 f6 t6
    go_wp2_with fail
    go_ret2
    exact HN.out
  ·have HX : Hid (¬ (chk A = 0 ∧ chk B = 0)) := fun h => h2 (Hq.out.symm.trans h.2)
   have d1 : (p != 0) = false := by simpa using h1
   have d2 : (q != 0) = true := by simpa using h2
   clear h1 h2
   go_enter Tryz.func72, Tryz.ntmps72
   go_wp2_with fail
   refine (lcheck_any ao n cap A _ HS.out).mono ?_
   rintro e w1 ⟨rfl, b1⟩
   rw [Hp.out]
   have HB1 := hide b1
   clear b1
   go_wp2_with fail
   refine (lcheck_any bo m cap' B _ (HR.out.below HB1.out)).mono ?_
   rintro e w2 ⟨rfl, b2⟩
   rw [Hq.out]
   have HB2 := hide (HB1.out.trans (b2.mono HB1.out.size))
   clear b2
   go_wp2_with fail
   go_ret2
   exact unionBad HX.out HB2.out
 ·have HX : Hid (¬ (chk A = 0 ∧ chk B = 0)) := fun h => h1 (Hp.out.symm.trans h.1)
  have d1 : (p != 0) = true := by simpa using h1
  clear h1
  go_enter Tryz.func72, Tryz.ntmps72
  go_wp2_with fail
  refine (lcheck_any ao n cap A _ HS.out).mono ?_
  rintro e w1 ⟨rfl, b1⟩
  rw [Hp.out]
  have HB1 := hide b1
  clear b1
  go_wp2_with fail
  go_ret2
  exact unionBad HX.out HB1.out
end Go.Proofs.YtfpmijfcemopoaaGreat.K
namespace Go.Proofs.YtfpmijfcemopoaaGreat.K
open Go.RowKit

theorem Clash.sub {A B : List En} (h : Clash A) (hm : ∀ x, x ∈ A → x ∈ B) : Clash B := by
 obtain ⟨x, hx, y, hy, hs, hne⟩ := h
 exact ⟨x, hm x hx, y, hm y hy, hs, hne⟩
theorem chk_asc {R : List En} (ha : Asc R) (hc : ∀ e ∈ R, ceE e = 0) : chk R = 0 := by
 have key : okN R R.length = true := by
  unfold okN
  rw [List.all_eq_true]
  intro k hk
  have hk' := List.mem_range.1 hk
  unfold okAt
  rw [Bool.and_eq_true]
  refine ⟨?_, ?_⟩
  ·rw [beq_iff_eq]; exact hc _ (getD_mem R k hk')
  ·cases k with
   | zero => rfl
   | succ j =>
    have h := List.pairwise_iff_getElem.1 ha j (j + 1) (by omega) hk' (by omega)
    have e1 : R.getD j en0 = R[j] := by simp [List.getD, show j < R.length by omega]
    have e2 : R.getD (j + 1) en0 = R[j + 1] := by simp [List.getD, hk']
    simp only [Nat.add_sub_cancel, e1, e2, h, Bool.or_true]
 unfold chk; rw [if_pos key]
theorem chk_asc' {R : List En} (h : chk R = 0) : Asc R := by
 refine asc_of_adj R (fun i hi => ?_)
 have := okN_at R _ (chk_zero h) (i + 1) hi
 unfold okAt at this
 rw [Bool.and_eq_true] at this
 simpa using this.2
end Go.Proofs.YtfpmijfcemopoaaGreat.K
namespace Go.Proofs.YtfpmijfcemopoaaGreat
open Go.RowKit
theorem chk_ce {L : List K.En} (h : K.chk L = 0) : ∀ e ∈ L, K.ceE e = 0 := fun e he => by
 obtain ⟨k, hk, rfl⟩ := List.getElem_of_mem he
 have h1 := K.okN_at L _ (K.chk_zero h) k hk
 unfold K.okAt at h1
 rw [Bool.and_eq_true] at h1
 have e1 : L.getD k K.en0 = L[k] := by simp [List.getD, List.getElem?_eq_getElem hk]
 rw [e1] at h1
 simpa using h1.1
theorem ce_dot {e : K.En} (h : K.ceE e = 0) : okD (dotOf e) = true := by
 unfold K.ceE at h
 by_cases h1 : K.isR e.rep = false
 ·rw [if_pos h1] at h; cases h
 ·rw [if_neg h1] at h
  by_cases h2 : e.num < 1 ∨ 1000000000 < e.num
  ·rw [if_pos h2] at h; cases h
  ·have h3 : K.isR e.rep = true := by simpa using h1
   unfold okD dotOf V.isR
   unfold K.isR at h3
   simp only [Bool.and_eq_true, decide_eq_true_eq] at h3 ⊢
   exact ⟨h3, by omega, by omega⟩
theorem dot_one {L : List K.En} (h : K.chk L = 0) {x y : K.En} (hx : x ∈ L) (hy : y ∈ L) (e : dotOf x = dotOf y) : x = y := by
 apply Classical.byContradiction
 intro hn
 refine K.asc_noclash (K.chk_asc' h) (fun _ => Iff.rfl) ⟨x, hx, y, hy, ?_, hn⟩
 unfold dotOf at e
 simp only [Rn.mk.injEq] at e
 simp [K.sameDot, e.1, e.2]
theorem ce_sku {e : K.En} (h : K.ceE e = 0) : ¬ e.sku.size = 0 := by
 intro h0
 have hn : e.sku.data.toList = [] := by
  apply List.eq_nil_of_length_eq_zero
  rw [K.len_at]; exact h0
 unfold K.ceE at h
 by_cases h1 : K.isR e.rep = false
 ·rw [if_pos h1] at h; cases h
 ·rw [if_neg h1] at h
  by_cases h2 : e.num < 1 ∨ 1000000000 < e.num
  ·rw [if_pos h2] at h; cases h
  ·rw [if_neg h2, hn] at h
   have hg : K.good ([] : List UInt8) = false := by decide
   simp [hg] at h
def BX (L : List K.En) (F : List Rc) (X : List Pv) : Prop := (∀ r : Nat, r < 16 → ∀ m, (∃ p ∈ X, mem (runsAt p.P r) m) ↔ ∃ f ∈ F, mem (dotsG (dotsS L f.s) r) m ∧ mem (runsAt f.p.P r) m) ∧ wt X ≤ F.length * (L.length + 1)
theorem BX.nil (L : List K.En) : BX L [] [] := ⟨fun r _ m => by simp, Nat.zero_le _⟩
theorem BX.snoc {L : List K.En} {F : List Rc} {X : List Pv} (h : BX L F X) {f : Rc} {D : Pst} {p : Pv} (hD : CanonOf (dotsG (dotsS L f.s)) D) (hm : ∃ C : Nat → List Rn, (∀ r, r < 16 → MeetOf (runsAt D r) (runsAt f.p.P r) (C r)) ∧ CanonOf C p.P) : BX L (F ++ [f]) (X ++ [p]) := by
 obtain ⟨C, hC, hP⟩ := hm
 have key : ∀ r : Nat, r < 16 → ∀ m, mem (C r) m ↔ mem (dotsG (dotsS L f.s) r) m ∧ mem (runsAt f.p.P r) m := fun r hr m => by rw [(hC r hr).2 m, canon_mem hD r hr m]
 refine ⟨fun r hr m => ?_, ?_⟩
 ·constructor
  ·rintro ⟨q, hq, hm⟩
   rcases List.mem_append.1 hq with hq | hq
   ·obtain ⟨g, hg, h1⟩ := (h.1 r hr m).1 ⟨q, hq, hm⟩
    exact ⟨g, List.mem_append_left _ hg, h1⟩
   ·obtain rfl : q = p := by simpa using hq
    rw [canon_mem hP r hr m, key r hr m] at hm
    exact ⟨f, by simp, hm⟩
  ·rintro ⟨g, hg, h1⟩
   rcases List.mem_append.1 hg with hg | hg
   ·obtain ⟨q, hq, h2⟩ := (h.1 r hr m).2 ⟨g, hg, h1⟩
    exact ⟨q, List.mem_append_left _ hq, h2⟩
   ·obtain rfl : g = f := by simpa using hg
    exact ⟨p, by simp, by rw [canon_mem hP r hr m, key r hr m]; exact h1⟩
 ·have h1 : p.P.cloud.length ≤ (dotsS L f.s).length := canon_count hP _ (fun r hr n hn => by
   obtain ⟨d, hd, -, e1, e2⟩ := (dotsG_mem _ _ _).1 ((key r hr n).1 hn).1
   have : d = ⟨(r : Int), n⟩ := by cases d; simp_all
   rw [← this]; exact hd)
  have h2 := dotsS_len L f.s
  have h3 := h.2
  rw [wt_append, List.length_append]
  simp only [wt, List.length_cons, List.length_nil]
  rw [Nat.add_mul]
  omega
theorem sku_eq {a b : ByteArray} (h : (a.toList == b.toList) = true) : a = b := by
 rw [beq_iff_eq, ByteArray.toList_eq, ByteArray.toList_eq] at h
 cases a; cases b
 simp at h
 rw [h]
theorem sku_refl (a : ByteArray) : (a.toList == a.toList) = true := by simp
theorem nilF_of {s : ByteArray} (h : s.size = 0) : s = nilF := by
 obtain ⟨d⟩ := s
 have : d = #[] := Array.eq_empty_of_size_eq_zero h
 rw [this]; rfl
theorem cov_iff {e : K.En} (he : okD (dotOf e) = true) (r : Rc) : covB r e = true ↔ (r.s = nilF ∨ r.s = e.sku) ∧ mem (runsAt r.p.P e.rep.toNat) e.num := by
 unfold covB
 rw [Bool.and_eq_true, inB_iff, Bool.or_eq_true, decide_eq_true_eq]
 have h1 : V.isR e.rep = true := by
  unfold okD dotOf at he
  simp only [Bool.and_eq_true] at he
  exact he.1
 constructor
 ·rintro ⟨h2, h3⟩
  refine ⟨h2.elim (fun h => .inl (nilF_of h)) (fun h => .inr (sku_eq h)), h3.2⟩
 ·rintro ⟨h2, h3⟩
  refine ⟨h2.elim (fun h => .inl (by rw [h]; rfl)) (fun h => .inr (by rw [h]; exact sku_refl _)), h1, h3⟩
theorem free_of {L : List K.En} {R F : List Rc} (hc : K.chk L = 0) (hF : FoldOf R F) {X : List Pv} (hX : BX L F X) {P : Pst} (hP : CanonOf (runsOf X) P) : L.filter (pkB P false) = L.filter (freeB R) := by
 apply List.filter_congr
 intro e he
 have hd := ce_dot (chk_ce hc e he)
 have hs := ce_sku (chk_ce hc e he)
 have hR : V.isR e.rep = true := by
  have h := hd
  unfold okD dotOf at h
  simp only [Bool.and_eq_true] at h
  exact h.1
 have hr : 0 ≤ e.rep ∧ e.rep < 16 := by simpa [V.isR] using hR
 have hrn : e.rep.toNat < 16 := by omega
 have hdot : ∀ s : ByteArray, mem (dotsG (dotsS L s) e.rep.toNat) e.num ↔ (s = nilF ∨ s = e.sku) := fun s => by
  rw [dotsG_mem]
  unfold dotsS
  constructor
  ·rintro ⟨d, hd1, -, h1, h2⟩
   obtain ⟨x, hx, rfl⟩ := List.mem_map.1 hd1
   obtain ⟨hx1, hx2⟩ := List.mem_filter.1 hx
   have ed : dotOf x = dotOf e := by
    unfold dotOf at h1 h2 ⊢
    simp only at h1 h2
    congr 1
    omega
   have := dot_one hc hx1 he ed
   subst this
   rw [Bool.or_eq_true, decide_eq_true_eq, decide_eq_true_eq] at hx2
   exact hx2.elim (fun h => .inl (nilF_of h)) (fun h => .inr h.symm)
  ·intro h
   refine ⟨dotOf e, List.mem_map.2 ⟨e, List.mem_filter.2 ⟨he, ?_⟩, rfl⟩, hd, by unfold dotOf; simp only; omega, rfl⟩
   rw [Bool.or_eq_true, decide_eq_true_eq, decide_eq_true_eq]
   exact h.elim (fun h => .inl (by rw [h]; rfl)) (fun h => .inr h.symm)
 have hin : inB P e = true ↔ ∃ f ∈ F, (f.s = nilF ∨ f.s = e.sku) ∧ FoldM R f.s e.rep.toNat e.num := by
  rw [inB_iff]
  unfold dotIn
  simp only [hR, true_and]
  rw [canon_mem hP _ hrn, runsOf_mem, hX.1 _ hrn]
  constructor
  ·rintro ⟨f, hf, h1, h2⟩
   refine ⟨f, hf, (hdot f.s).1 h1, ?_⟩
   obtain ⟨C, hC, hI⟩ := (hF.2.1 f hf).2.1
   exact (hI _ hrn _).1 ((canon_mem hC _ hrn _).1 h2)
  ·rintro ⟨f, hf, h1, h2⟩
   refine ⟨f, hf, (hdot f.s).2 h1, ?_⟩
   obtain ⟨C, hC, hI⟩ := (hF.2.1 f hf).2.1
   exact (canon_mem hC _ hrn _).2 ((hI _ hrn _).2 h2)
 have hin2 : inB P e = true ↔ R.any (fun r => covB r e) = true := by
  rw [hin, List.any_eq_true]
  constructor
  ·rintro ⟨f, hf, h1, ⟨x, hx, hxs, hm⟩, -⟩
   exact ⟨x, hx, (cov_iff hd x).2 ⟨by rw [hxs]; exact h1, hm⟩⟩
  ·rintro ⟨r, hr1, hcv⟩
   obtain ⟨h1, h2⟩ := (cov_iff hd r).1 hcv
   have step : ∀ s, (s = nilF ∨ s = e.sku) → FoldM R s e.rep.toNat e.num → ∃ f ∈ F, (f.s = nilF ∨ f.s = e.sku) ∧ FoldM R f.s e.rep.toNat e.num := fun s hs1 hM => by
    obtain ⟨x, hx, hxs, -⟩ := hM.1
    apply Classical.byContradiction
    intro hn
    refine hF.2.2 s ⟨x, hx, hxs⟩ (fun f hf hfs => hn ⟨f, hf, by rw [hfs]; exact hs1, by rw [hfs]; exact hM⟩) _ hrn _ hM
   by_cases hz : ∃ x ∈ R, x.s = nilF ∧ mem (runsAt x.p.P e.rep.toNat) e.num
   ·exact step nilF (.inl rfl) ⟨hz, fun h => absurd rfl h⟩
   ·rcases h1 with h1 | h1
    ·exact absurd ⟨r, hr1, h1, h2⟩ hz
    ·exact step e.sku (.inr rfl) ⟨⟨r, hr1, h1, h2⟩, fun _ => hz⟩
 unfold pkB freeB
 cases h1 : inB P e <;> cases h2 : R.any (fun r => covB r e)
 ·rfl
 ·rw [h1, h2] at hin2; exact absurd (hin2.2 rfl) (by decide)
 ·rw [h1, h2] at hin2; exact absurd (hin2.1 rfl) (by decide)
 ·rfl
theorem free_nil {L : List K.En} {R : List Rc} (hc : K.chk L = 0) (hF : FoldOf R []) : L.filter (freeB R) = L := by
 have h := free_of hc hF (BX.nil L) (P := pv0.P) ⟨fun _ => [], fun _ _ => ⟨trivial, fun _ => Iff.rfl⟩, by decide⟩
 rw [← h]
 apply List.filter_eq_self.2
 intro e _
 have : inB pv0.P e = false := by
  cases hb : inB pv0.P e
  ·rfl
  ·rw [inB_iff] at hb
   unfold dotIn at hb
   obtain ⟨h1, h2⟩ := hb
   exact absurd h2 (by unfold runsAt pv0; simp [vecPart, cloudPart, V.at', mem, V.clamp])
 unfold pkB
 rw [this]
 rfl
end Go.Proofs.YtfpmijfcemopoaaGreat
namespace Go.Proofs.YtfpmijfcemopoaaGreat
open Go.RowKit Go.Maps Go.Sort
attribute [local go_sem ↓] ldP_eq stP_eq ldRe_eq stRe_eq
attribute [local go_sem] cells_ReV ReC_size zero_ReC
theorem nodup_len {α : Type} [DecidableEq α] : ∀ (l m : List α), l.Nodup → (∀ x ∈ l, x ∈ m) → l.length ≤ m.length
 | [], _, _, _ => Nat.zero_le _
 | x :: l, m, hn, hs => by
  have h1 := List.nodup_cons.1 hn
  have hx := hs x List.mem_cons_self
  have h2 := nodup_len l (m.erase x) h1.2 (fun y hy => (List.mem_erase_of_ne (fun e => h1.1 (by rw [← e]; exact hy))).2 (hs y (List.mem_cons_of_mem _ hy)))
  rw [List.length_erase_of_mem hx] at h2
  have := List.length_pos_of_mem hx
  simp only [List.length_cons]
  omega
theorem cb_self : ∀ a : List UInt8, Lib.compareBytes a a = 0
 | [] => by simp [Lib.compareBytes]
 | a :: x => by
  have h0 : ¬ a < a := UInt8.lt_irrefl a
  simpa [Lib.compareBytes, h0] using cb_self x
theorem fold_len {R F : List Rc} (h : FoldOf R F) : F.length ≤ R.length := by
 have h1 := nodup_len (F.map (fun x => x.s.data.toList)) (R.map (fun x => x.s.data.toList)) (by
  refine List.pairwise_map.2 (h.1.imp fun {a b} hab e => ?_)
  have e2 : a.s = b.s := by cases ha : a.s; cases hb : b.s; rw [ha, hb] at e; simpa using e
  rw [e2] at hab
  exact absurd hab (by unfold cmpS; rw [cb_self]; decide)) (fun x hx => by
  obtain ⟨f, hf, rfl⟩ := List.mem_map.1 hx
  obtain ⟨r, hr, e⟩ := (h.2.1 f hf).1
  exact List.mem_map.2 ⟨r, hr, by rw [e]⟩)
 simpa using h1
theorem clone_gives {w w' : World} {L : List K.En} {n : Nat} {ao : Option Addr} {c : Nat} (hn : L.length = n) (hs : ∀ e ∈ L, e.sku.size ≤ maxLen) (hb : n ≤ 3518437208883) (O : K.OwnE w.heap.size w.heap.size w w' ao c L) : K.ESrc w' ao n c L ∧ ∀ ad, ao = some ad → w.heap.size ≤ ad.block := by
 have h := O.src hs (by omega)
 rw [hn] at h
 exact h
set_option maxRecDepth 100000 in
set_option maxHeartbeats 3200000 in
theorem apply_any (ao bo : Option Addr) (n cap m cap' : Nat) (L : List K.En) (R : List Rc) (w : World) (hS : K.ESrc w ao n cap L) (hR : RcS w bo m cap' R) (hwt : ∀ s, wt (ofS R s) ≤ 8796093022207) (hnm : m * (n + 1) ≤ 8796093022207) :
  Calls Tryz.prog 19 #[.slice ao n cap, .slice bo m cap'] w fun x w' => ApA w w' x L R m := by
 have HS := hide hS
 have HR := hide hR
 have HW := hide hwt
 have HNM := hide hnm
 have HL : Hid (L.length = n ∧ n ≤ 3518437208883) := ⟨hS.1, hS.2.2.2.2⟩
 have hnb := HL.out.2
 have HM : Hid (R.length = m) := hR.len
 clear hS hR hwt hnm
 go_enter Tryz.func19, Tryz.ntmps19
 go_wp2_with fail
 refine (K.lcheck_any ao n cap L _ HS.out).mono ?_
 rintro x w1 ⟨rfl, b1⟩
 have HB1 := hide b1
 have HS1 := hide (HS.out.below b1)
 have HR1 := hide (HR.out.below b1)
 clear b1 HS HR
 rcases K.chk_cases L with hc | hc
 rotate_left
 ·have HE : Hid (ApA w w1 (.returned (.tuple #[.slice none 0 0, .int .i64 1])) L R m) := .inr ⟨fun h => (by rw [hc] at h; cases h.1), _, _, _, rfl, K.ESrc.none _, HB1.out, fun ad h => by cases h⟩
  rw [hc]
  clear hc
  go_wp2_with fail
  go_ret2
  exact HE.out
 ·rw [hc]
  have HC := hide hc
  clear hc
  go_wp2_with fail
  refine (fold_any bo m cap' R _ HR1.out HW.out).mono ?_
  rintro x w2 (⟨hO, ⟨qo, qn, qc⟩, F, rfl, S2, b2, -, hF⟩ | ⟨hO, rfl, b2⟩)
  rotate_left
  ·have HE : Hid (ApA w w2 (.returned (.tuple #[.slice none 0 0, .int .i64 1])) L R m) := .inr ⟨fun h => hO h.2, _, _, _, rfl, K.ESrc.none _, HB1.out.trans (b2.mono HB1.out.size), fun ad h => by cases h⟩
   clear hO b2
   go_wp2_with fail
   go_ret2
   exact HE.out
  ·rw [show HsV ⟨qo, qn, qc⟩ = Value.slice qo qn qc from rfl]
   replace S2 : RcS w2 qo qn qc F := S2
   have HO := hide hO
   have HB2 := hide (HB1.out.trans (b2.mono HB1.out.size))
   have HS2 := hide (HS1.out.below b2)
   have HF := hide hF
   have HFS := hide S2
   have HFl : Hid (F.length = qn) := S2.len
   have hqb := S2.big
   have HFm : Hid (qn ≤ m) := by show _ ≤ _; rw [← HFl.out, ← HM.out]; exact fold_len hF
   clear hO b2 HS1 HB1 HR1 hF S2
   by_cases hq0 : qn = 0
   ·have hqi : ((qn : Int) == 0) = true := by simp [hq0]
    have hF0 : F = [] := List.eq_nil_of_length_eq_zero (HFl.out.trans hq0)
    have HFr : Hid (L.filter (freeB R) = L) := by show _ = _; exact free_nil HC.out (hF0 ▸ HF.out)
    clear hF0
    cases ao with
    | none =>
     have h00 := HS2.out.2.1 rfl
     obtain ⟨rfl, rfl⟩ := h00
     go_wp2_with fail
     refine (K.clone_nil _).mono ?_
     rintro x w3 ⟨rfl, rfl⟩
     have HE : Hid (ApA w w3 (.returned (.tuple #[.slice none 0 0, .int .i64 0])) L R m) := .inl ⟨HC.out, HO.out, none, 0, 0, rfl, by rw [HFr.out]; exact HS2.out, HB2.out, fun ad h => by cases h⟩
     go_wp2_with fail
     go_ret2
     exact HE.out
    | some ad =>
     go_wp2_with fail
     refine (K.clone_any ad n cap L _ HS2.out).mono ?_
     rintro x w3 ⟨a3, c3, rfl, O3⟩
     have h3 := clone_gives HL.out.1 HS2.out.2.2.2.1 HL.out.2 O3
     have HE : Hid (ApA w w3 (.returned (.tuple #[.slice a3 n c3, .int .i64 0])) L R m) := .inl ⟨HC.out, HO.out, a3, n, c3, rfl, by rw [HFr.out]; exact h3.1, HB2.out.trans (O3.below.mono HB2.out.size), fun ad h => Nat.le_trans HB2.out.size (h3.2 ad h)⟩
     clear O3 h3
     go_wp2_with fail
     go_ret2
     exact HE.out
   ·have hqi : ((qn : Int) == 0) = false := by simp [hq0]
    have HSK : Hid (∀ e ∈ L, ¬ e.sku.size = 0) := fun e he => ce_sku (chk_ce HC.out e he)
    go_wp2_with fail
    refine (dotsBy_any ao n cap L _ HS2.out HSK.out).mono ?_
    rintro x w3 ⟨kk, rfl, hM⟩
    obtain ⟨K0, f, M3⟩ := hM
    have HM3 := hide M3
    have HB3 := hide (HB2.out.trans (M3.below.mono HB2.out.size))
    have HS3 := hide (HS2.out.below M3.below)
    have HF3 := hide (HFS.out.below M3.below)
    obtain ⟨b, Hb⟩ : ∃ b, Hid (w2.heap.size = b) := ⟨_, rfl⟩
    rw [Hb.out]
    clear M3 HS2 HFS HB2
    go_wp2_with fail
    go_loopw [10, 35] (fun v i wr => ∃ (k : Nat) (x : Hs), k ≤ qn ∧ v = .slice x.o x.n x.c ∧ i = .int .i64 (k : Int) ∧ Hid (∃ X : List Pv, OwnP w3.heap.size w3 wr x X ∧ (∀ p ∈ X, FarH x p) ∧ BX L (F.take k) X ∧ x.n = k)) (fun _ i _ => qn - (intOf i).toNat)
    case atStart => exact ⟨0, hs0, Nat.zero_le _, rfl, rfl, ⟨[], OwnP.nil w3, fun p h => (by cases h), BX.nil L, rfl⟩⟩
    case round =>
     obtain ⟨k, x, hk, rfl, rfl, HX⟩ := hrel
     rename World => wr
     by_cases hlt : k < qn
     ·have hlti : (k : Int) < (qn : Int) := by omega
      obtain ⟨X, O, hFar, hBX, hxn⟩ := HX.out
      obtain ⟨ad, hao, A0⟩ := (HF3.out.below O.below).at k hlt
      have hOk := (HF3.out.below O.below).okAt k hlt
      have HT := hide (take_snocF F k (by rw [HFl.out]; exact hlt))
      obtain ⟨r, Hr⟩ : ∃ r, Hid (F.getD k rc0 = r) := ⟨_, rfl⟩
      rw [Hr.out] at A0 hOk HT
      have hsk := hOk.2
      have hld := run_laRe A0
      obtain ⟨g7, hg7⟩ : ∃ g7, wr.heap.size = g7 := ⟨_, rfl⟩
      obtain ⟨w7, hst, X7, B7, S7⟩ := madeRe wr (mkR r) g7 hg7
      have O7 := (O.later B7).later (below_drew1 w7)
      have M7 := ((HM3.out.later O.below).later B7).later (below_drew1 w7)
      have l0 : (Instr.lookup 76 (.map (some b)) (.string r.s) false).run Tryz.prog w7.drew = .ok (.slice (f r.s).o (f r.s).n (f r.s).c) w7.drew := by
       have := M7.look keyS Tryz.underlying9 Tryz.underlying76 (zeroDs _) r.s hsk
       rwa [Hb.out] at this
      have hdl := M7.len r.s
      have hdb := dotsS_len L r.s
      have HD7 : Hid (RSrc w7.drew (f r.s).o (f r.s).n (f r.s).c (dotsS L r.s)) := by
       have h := M7.rows r.s
       have e : (HsV (f r.s)) = .slice (f r.s).o (dotsS L r.s).length (f r.s).c := by show Value.slice _ _ _ = _; rw [hdl]
       rw [e, hdl] at h
       have := (OwnD.src (B0 := w2.heap.size) ⟨h, M7.below, M7.hb.2.2, by omega⟩ (by have := HL.out; omega)).1
       show RSrc _ _ _ _ _
       rw [hdl]
       exact this
      have HSt : Hid (∀ W : World, W.heap[g7]? = w7.heap[g7]? → W.cell? ⟨g7, 0, none⟩ = some (.string r.s) ∧ (ldP (.pointer (some ⟨g7, 1, none⟩))).run Tryz.prog W = .ok (.agg #[.slice r.p.vo r.p.vn r.p.vc, .slice r.p.co r.p.cn r.p.cc]) W) := fun W h => by
       have X : ReBox W g7 (mkR r) := h.trans X7
       exact ⟨X.sk, run_ldP X.past⟩
      have Hg7 : Hid (g7 < w7.heap.size) := by show _ < _; omega
      have Hlt := hide hlt
      have HO7 := hide O7
      have HFa := hide hFar
      have HBX := hide hBX
      have Hxn : Hid (x.n = k ∧ k ≤ 2199023255552) := ⟨hxn, by omega⟩
      have HP7 : Hid (PSrc w7.drew r.p) := ((hOk.1.below B7).below (below_drew1 w7))
      have HGX : Hid (∀ j, (HsV x).ownBlock = some j → j < g7) := fun j hj => by have := (O.own.lt j hj).2; omega
      subst hao
      clear A0 X7 B7 S7 M7 O7 O hFar hBX hlt hk hOk hdl hdb hxn HX
      go_upto_region 14 with fail
      clear hst hld
      refine wp_region_held_drew (S := fun W => W.cell? ⟨g7, 0, none⟩ = some (.string r.s) ∧ (ldP (.pointer (some ⟨g7, 1, none⟩))).run Tryz.prog W = .ok (.agg #[.slice r.p.vo r.p.vn r.p.vc, .slice r.p.co r.p.cn r.p.cc]) W) (by kernel_rfl) (HSt.out _ rfl) (fun hHeld => ?_)
      refine wTk 0 ⟨some 39, .move (.tmp 10), 78, "bars.go:44", #[], none⟩ rfl ?_
      refine wTk 1 ⟨some 40, .move (.tmp 9), 76, "bars.go:44", #[], none⟩ rfl ?_
      refine wTk 2 ⟨some 41, .fieldAddr 39 (.tmp 12) 0, 0, "bars.go:44", #[], none⟩ rfl ?_
      refine wTk 3 ⟨some 42, .load 9 (.tmp 41), 9, "bars.go:44", #[⟨2, .data⟩], none⟩ rfl ?_
      refine wTk 6 ⟨some 45, .fieldAddr 39 (.tmp 12) 1, 0, "bars.go:44", #[], none⟩ rfl ?_
      refine wTk 7 ⟨some 46, .load 27 (.tmp 45), 27, "bars.go:44", #[⟨6, .data⟩], none⟩ rfl ?_
      refine wpAnyH_ready (rs := [4]) (by kernel_rfl) (by simp) (.cons rfl (fun K hK => ?_) .nil)
      go_simp
      refine hK.out _ _ (HSt.out _ rfl) (fun hHeld => ?_)
      clear hK K
      refine wpAnyH_ready (rs := [5]) (by kernel_rfl) (by simp) (.cons rfl (fun K hK => ?_) .nil)
      go_simp
      go_wp2_with fail
      refine (pastOfN_any (f r.s).o (f r.s).n (f r.s).c (dotsS L r.s) _ HD7.out).mono ?_
      rintro e w8 ⟨pd, rfl, Sd, -, b8, Cd⟩
      have HO8 := hide (HO7.out.later b8)
      have HP8 := hide (HP7.out.below b8)
      have z8 : w8.heap[g7]? = w7.heap[g7]? := b8.block g7 Hg7.out
      have HZ8 := hide z8
      have HG8 : Hid (g7 < w8.heap.size) := Nat.lt_of_lt_of_le Hg7.out b8.size
      have HSd := hide Sd
      have HCd := hide Cd
      refine hK.out _ _ (HSt.out _ z8) (fun hHeld => ?_)
      clear hK K
      clear b8 z8 Sd Cd HO7 HP7 l0
      refine wpAnyH_ready (rs := [8]) (by kernel_rfl) (by simp) (.cons rfl (fun K hK => ?_) .nil)
      go_simp
      go_wp2_with fail
      refine (pastMeet_any pd r.p _ HSd.out HP8.out).mono ?_
      rintro e w9 ⟨pm, rfl, Sm, Nm, b9, Cm⟩
      have HO9 := hide (HO8.out.later b9)
      have z9 : w9.heap[g7]? = w7.heap[g7]? := (b9.block g7 HG8.out).trans HZ8.out
      have HZ9 := hide z9
      have HG9 : Hid (g7 < w9.heap.size) := Nat.lt_of_lt_of_le HG8.out b9.size
      have HSm := hide Sm
      have HFm2 : Hid (FarH x pm) := fun j hj => PFar.new Nm (by have := HGX.out j hj; have := HG8.out; omega)
      have HBm : Hid (BX L (F.take (k + 1)) (X ++ [pm])) := by show BX _ _ _; rw [HT.out]; exact HBX.out.snoc HCd.out Cm
      refine hK.out _ _ (HSt.out _ z9) (fun hHeld => ?_)
      clear hK K
      clear b9 z9 Sm Nm Cm HO8 HP8
      obtain ⟨ga, ca, wa, haa, Oa, Fa, ka⟩ := HO9.out.app HFa.out pm HSm.out HFm2.out (by have := Hxn.out; omega)
      have HAA : Hid ((Builtin.append_ #[78, 78] 78 #[.slice x.o x.n x.c, .slice (some ⟨w9.heap.size, 0, none⟩) 1 1]).run Tryz.prog (w9.alloc (.cells #[.slice pm.vo pm.vn pm.vc, .slice pm.co pm.cn pm.cc] 27)) = .ok (.slice (some ⟨ga, 0, none⟩) (x.n + 1) ca) wa) := haa
      have zA : (w9.alloc (.cells #[.slice pm.vo pm.vn pm.vc, .slice pm.co pm.cn pm.cc] 27)).heap[g7]? = w7.heap[g7]? := (Below.heap_alloc w9 _ g7 HG9.out).trans HZ9.out
      have za : wa.heap[g7]? = w7.heap[g7]? := (ka g7 HG9.out (fun e => by have := HGX.out g7 e; omega)).trans HZ9.out
      have HOa : Hid (∃ X : List Pv, OwnP w3.heap.size w3 wa ⟨some ⟨ga, 0, none⟩, x.n + 1, ca⟩ X ∧ (∀ p ∈ X, FarH ⟨some ⟨ga, 0, none⟩, x.n + 1, ca⟩ p) ∧ BX L (F.take (k + 1)) X ∧ x.n + 1 = k + 1) := ⟨_, Oa, Fa, HBm.out, by rw [Hxn.out.1]⟩
      clear haa Oa Fa ka
      refine wpAnyH_ready (rs := [9]) (by kernel_rfl) (by simp) (.cons rfl (fun K hK => ?_) .nil)
      go_simp
      refine hK.out _ _ (HSt.out _ zA) (fun hHeld => ?_)
      clear hK K
      refine wpAnyH_ready (rs := [10]) (by kernel_rfl) (by simp) (.cons rfl (fun K hK => ?_) .nil)
      refine step_appM (by rfl) (.tmp 39) (.tmp 48) (by rfl) (by rfl) (by rfl) HAA.out ?_
      refine hK.out _ _ (HSt.out _ za) (fun hHeld => ?_)
      clear hK K
      refine wTk 11 ⟨some 10, .assign (.tmp 49), 78, "bars.go:44", #[⟨10, .data⟩, ⟨10, .chain⟩, ⟨0, .phase⟩, ⟨1, .phase⟩, ⟨2, .phase⟩, ⟨3, .phase⟩, ⟨4, .phase⟩, ⟨5, .phase⟩, ⟨6, .phase⟩, ⟨7, .phase⟩, ⟨8, .phase⟩, ⟨9, .phase⟩, ⟨10, .phase⟩], none⟩ rfl ?_
      refine wpAnyH_done (by kernel_rfl) ?_ _
      clear hHeld
      clear zA za
      go_wp2_with fail
      go_roundw
      case rel => exact ⟨k + 1, ⟨some ⟨ga, 0, none⟩, x.n + 1, ca⟩, Hlt.out, rfl, by simp, HOa⟩
      case measure => simp [intOf]; have := Hlt.out; omega
     ·have hlti : ¬ (k : Int) < (qn : Int) := by omega
      obtain ⟨X, O, -, hBX, hxn⟩ := HX.out
      have hT : F.take k = F := List.take_of_length_le (by have := HFl.out; omega)
      rw [hT] at hBX
      have HBX := hide hBX
      have HP : Hid (PRow wr x.o x.n X) := O.row
      have HWX : Hid (wt X ≤ 8796093022207) := by
       show _ ≤ _
       have h1 := hBX.2
       rw [HFl.out, HL.out.1] at h1
       have h2 := Nat.mul_le_mul_right (n + 1) HFm.out
       have h3 := HNM.out
       omega
      have hxq : x.n ≤ 8796093022207 := by omega
      have HBr := hide (HB3.out.trans (O.below.mono HB3.out.size))
      have HSr := hide (HS3.out.below O.below)
      clear O hBX hT hxn HX hk hlt
      go_wp2_with fail
      refine (pastJoin_any x.o x.n x.c X _ HP.out HWX.out hxq).mono ?_
      rintro e w8 ⟨pj, rfl, Sj, -, b8, Cj⟩
      have HB8 := hide (HBr.out.trans (b8.mono HBr.out.size))
      have HS8 := hide (HSr.out.below b8)
      have HSj := hide Sj
      have HCj := hide Cj
      clear b8 Sj Cj HBr HSr
      go_wp2_with fail
      refine (outside_any ao n cap L pj _ HS8.out HSj.out).mono ?_
      rintro e w9 (⟨-, -, a9, n9, c9, rfl, S9, b9, N9⟩ | ⟨hno, -⟩)
      rotate_left
      ·exact absurd ⟨HC.out, canon_iff.1 HCj.out.canon⟩ hno
      ·have HE : Hid (ApA w w9 (.returned (.tuple #[.slice a9 n9 c9, .int .i64 0])) L R m) := .inl ⟨HC.out, HO.out, a9, n9, c9, rfl, by rw [← free_of HC.out HF.out HBX.out HCj.out]; exact S9, HB8.out.trans (b9.mono HB8.out.size), fun ad h => Nat.le_trans HB8.out.size (N9 ad h)⟩
       clear S9 b9 N9
       go_wp2_with fail
       go_ret2
       exact HE.out
end Go.Proofs.YtfpmijfcemopoaaGreat
