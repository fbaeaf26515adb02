/- LSor LSo2 LShg LCct LUp LUn LSp BBx SQl SLt PLs GFc EFp QLb -/
import Derived.Test.YtmbkmpeongodbaaGreatAr30
import Derived.Lib.SliceRun
import Derived.Shelf.Spec.SlicesGrow
import Derived.Test.YtmbkmpeongodbaaGreatProg
import Derived.Laws.AppendOwnNone
import Derived.Deep.LoopGhost
import Derived.Test.YtmbkmpeongodbaaGreatAr17
import Derived.Test.YtmbkmpeongodbaaGreatAr20
import Derived.Test.YtmbkmpeongodbaaGreatAr14
import Derived.Test.YtmbkmpeongodbaaGreatAr24
import Derived.Test.YtmbkmpeongodbaaGreatAr28
import Derived.Test.YtmbkmpeongodbaaGreatAr29
import Derived.Test.YtmbkmpeongodbaaGreatAr07
import Derived.Test.YtmbkmpeongodbaaGreatAr06
import Derived.Test.YtmbkmpeongodbaaGreatAr10
import Derived.Test.YtmbkmpeongodbaaGreatAr18
namespace Go.Proofs.YtmbkmpeongodbaaGreat.K
open Go.RowKit Go.Lib
attribute [local go_sem ↓] ld28_eq st28_eq
attribute [local go_sem] zero_EC cells_EV EC_size
def firstE : List En → Int
 | [] => 0
 | e :: r => if ceE e = 0 then firstE r else ceE e
def okTo (L : List En) (k : Nat) : Prop := ∀ i, i < k → ceE (L.getD i en0) = 0
def Sorted (L R : List En) (er : Int) : Prop := (firstE L ≠ 0 ∧ R = [] ∧ er = firstE L) ∨ (firstE L = 0 ∧ Settled L R er)
def GivesQ (w w' : World) (e : Ending) (L : List En) : Prop := ∃ ao n c R er, e = .returned (.tuple #[.slice ao n c, .int .i64 er]) ∧ ESrc w' ao n c R ∧ Below w.heap.size w w' ∧ (∀ ad, ao = some ad → w.heap.size ≤ ad.block) ∧ Sorted L R er
theorem ESrc.cells {w : World} {ad : Addr} {n cap : Nat} {L : List En} (hS : ESrc w (some ad) n cap L) (j : Nat) (u : Value) (hj : (ecs L)[j]? = some u) : w.cell? (ad.add j) = some u := by
 have hjl : j < L.length * 4 := by have := (List.getElem?_eq_some_iff.1 hj).1; rwa [ecs_length] at this
 have e4 := ecs_at L (j / 4) (j % 4) (by omega) (by omega)
 rw [show j / 4 * 4 + j % 4 = j by omega, hj] at e4
 have A := hS.2.2.1 ad rfl (j / 4) (by rw [← hS.1]; omega)
 have : j % 4 = 0 ∨ j % 4 = 1 ∨ j % 4 = 2 ∨ j % 4 = 3 := by omega
 rcases this with h | h | h | h
 ·rw [h] at e4; rw [show j = j / 4 * 4 by omega, A.c0]; exact e4.symm
 ·rw [h] at e4; have := A.c1; rw [add_add] at this; rw [show j = j / 4 * 4 + 1 by omega, this]; exact e4.symm
 ·rw [h] at e4; have := A.c2; rw [add_add] at this; rw [show j = j / 4 * 4 + 2 by omega, this]; exact e4.symm
 ·rw [h] at e4; have := A.c3; rw [add_add] at this; rw [show j = j / 4 * 4 + 3 by omega, this]; exact e4.symm
theorem ecs_onecell (L : List En) : ∀ u ∈ ecs L, u.oneCell' = true := by
 intro u hu
 obtain ⟨l, hl, hv⟩ := List.mem_flatten.1 hu
 obtain ⟨e, _, rfl⟩ := List.mem_map.1 hl
 exact EC_one e u hv
theorem clone_any (ad : Addr) (n cap : Nat) (L : List En) (w : World) (hS : ESrc w (some ad) n cap L) :
  Calls Tryz.prog 87 #[.slice (some ad) n cap] w fun e w' => ∃ ao c, e = .returned (.slice ao n c) ∧ OwnE w.heap.size w.heap.size w w' ao c L := by
 obtain ⟨i0, hi, hz0, hz1, hz2⟩ := info_parts info28
 have q22 : ∀ w, (binOp .eql 22 (.slice (some ad) n cap) (.slice none 0 0)).run Tryz.prog w = .ok (.bool false) w := fun w => Lib.run_eql_slice_nil w _ _ (some ad) n cap 0 0 Tryz.underlying22
 have HS := hide hS
 clear hS
 go_enter Tryz.func87, Tryz.ntmps87
 go_wp2_with (at_builtin; refine wpList_append_own _ rfl _ _ 22 rfl w.heap.size 46 i0 (.agg #[.int .i64 0, .int .i64 0, .string ⟨#[]⟩, .int .i64 0]) 4 40 Tryz.underlying22 hi hz0 hz1 hz2 rfl (by decide) _ _ _ rfl (World.ownsRow_made w #[] 0 (Nat.le_refl _) (Nat.zero_le _) (by simp)) ad n cap (ecs L) rfl ?qc1 ?qc2 ?qc3 ?qc4 ?qc5 ?qc6 ?_)
 case qc1 => rw [ecs_length, HS.out.1]
 case qc2 =>
  intro j u hj
  have := HS.out.cells j u hj
  rw [(below_new w _).cell (World.block_lt_of_cell? _ _ this)]
  exact this
 case qc3 => exact ecs_onecell L
 case qc4 => rw [Nat.zero_add]; unfold maxLen; have := HS.out.2.2.2.2; omega
 case qc5 => rw [Nat.zero_add]; have := HS.out.2.2.2.2; omega
 case qc6 => simp
 intro v' w1 hown hgrow hnil
 have hown' : w1.ownsRow w.heap.size 46 4 v' n (ecs L) := by simpa using hown
 have hb : Below w.heap.size w w1 := ((Below.refl _ w).alloc (Nat.le_refl _) _).grown hgrow (by simp) (by intro k hk; simp [Value.ownBlock] at hk; omega)
 have HF : Hid (∃ ao c, v' = .slice ao n c ∧ OwnE w.heap.size w.heap.size w w1 ao c L) := by
  rcases hown'.2 with ⟨h0, _⟩ | ⟨g, c, cur, rfl, r⟩
  ·exact absurd h0 hnil
  ·exact ⟨some ⟨g, 0, none⟩, c, rfl, by rw [HS.out.1]; exact hown', hb, hb.size, Nat.le_refl _⟩
 clear hown hown' hgrow hnil hb
 go_wp2_with fail
 go_ret
 obtain ⟨ao, c, rfl, h⟩ := HF.out
 exact ⟨ao, c, rfl, h⟩
theorem clone_nil (w : World) : Calls Tryz.prog 87 #[.slice none 0 0] w fun e w' => e = .returned (.slice none 0 0) ∧ w' = w := by
 have q22 : ∀ w, (binOp .eql 22 (.slice none 0 0) (.slice none 0 0)).run Tryz.prog w = .ok (.bool true) w := fun w => Lib.run_eql_slice_nil w _ _ none 0 0 0 0 Tryz.underlying22
 go_enter Tryz.func87, Tryz.ntmps87
 go_wp2_with fail
 go_ret
 exact ⟨rfl, rfl⟩
theorem OwnE.mr {B0 B : Nat} {w w' : World} {ad : Addr} {cap : Nat} {acc : List En} (O : OwnE B0 B w w' (some ad) cap acc) : MR w' ad acc.toArray ∧ acc.length ≤ cap ∧ cap ≤ 9223372036854775807 ∧ B ≤ ad.block := by
 rcases O.own.2 with ⟨h0, _⟩ | ⟨g, c, cur, hv, hbg, hgg, hnc, hcm, hcsz, htake⟩
 ·cases h0
 ·simp only [Value.slice.injEq, Option.some.injEq, true_and] at hv
  obtain ⟨rfl, rfl⟩ := hv
  refine ⟨⟨fun j hj => ?_, (Array.getElem?_eq_some_iff.1 hgg).1, rfl⟩, hnc, by unfold maxLen at hcm; omega, hbg⟩
  rw [Sort.size_flatK] at hj
  have hj' : j < acc.length * 4 := by simpa using hj
  refine ⟨?_, by simp [World.frozen?, hgg]⟩
  rw [Nat.zero_add, O.own.cellAt j (by omega), Sort.get_flatK _ _ _ _ hj]
  have e4 := ecs_at acc (j / 4) (j % 4) (by omega) (by omega)
  rw [show j / 4 * 4 + j % 4 = j by omega] at e4
  rw [e4]
  have e5 : acc.toArray[j / 4]! = acc.getD (j / 4) en0 := by
   rw [getElem!_pos acc.toArray (j / 4) (by simp; omega)]; simp [List.getD, show j / 4 < acc.length by omega]
  rw [e5]
  have : j % 4 = 0 ∨ j % 4 = 1 ∨ j % 4 = 2 ∨ j % 4 = 3 := by omega
  rcases this with h | h | h | h <;> rw [h] <;> rfl
end Go.Proofs.YtmbkmpeongodbaaGreat.K
namespace Go.Proofs.YtmbkmpeongodbaaGreat.K
open Go.RowKit Go.Lib
attribute [local go_sem ↓] ld28_eq st28_eq
attribute [local go_sem] zero_EC cells_EV EC_size
end Go.Proofs.YtmbkmpeongodbaaGreat.K
namespace Go.Proofs
open Go.Shelf
def Tryz.growEn_ren : Go.Shelf.Ren := ⟨fun | 4 => 132 | n => n, fun | 22 => 22 | 25 => 46 | 3 => 3 | 4 => 4 | 9 => 9 | 20 => 20 | 0 => 0 | n => n, fun | n => n⟩
theorem Tryz.growEn : Go.Proofs.Lays8.n4 Tryz.prog Tryz.growEn_ren := {
 mixed := by kernel_rfl
 f4 := ⟨Tryz.f132.name, by decide, Tryz.func132.trans (congrArg some (by kernel_rfl))⟩
 t0 := Tryz.underlying0
 a0 := Tryz.isAgg0
 z0 := Tryz.sizeOf0
 v0 := Tryz.zeroValue0
 t3 := Tryz.underlying3
 a3 := Tryz.isAgg3
 z3 := Tryz.sizeOf3
 v3 := Tryz.zeroValue3
 t4 := Tryz.underlying4
 a4 := Tryz.isAgg4
 z4 := Tryz.sizeOf4
 v4 := Tryz.zeroValue4
 t9 := Tryz.underlying9
 a9 := Tryz.isAgg9
 z9 := Tryz.sizeOf9
 v9 := Tryz.zeroValue9
 t20 := Tryz.underlying20
 a20 := Tryz.isAgg20
 z20 := Tryz.sizeOf20
 v20 := Tryz.zeroValue20
 t22 := Tryz.underlying22
 a22 := Tryz.isAgg22
 z22 := Tryz.sizeOf22
 v22 := Tryz.zeroValue22 }
end Go.Proofs
namespace Go.Proofs.YtmbkmpeongodbaaGreat.K
open Go.RowKit Go.Lib

theorem zc_size (n : Nat) : (Builtin.zeroCells (EC en0) n).size = n * 4 := by simp [Builtin.zeroCells, EC_size]
theorem below_drew1 (w : World) : Below w.heap.size w w.drew := ⟨rfl, rfl, rfl, Nat.le_refl _, fun _ _ => rfl⟩
theorem grow_nil (n : Nat) (w : World) (hn : n ≤ 3518437208883) : Calls Tryz.prog 132 #[.slice none 0 0, .int .i64 n] w fun e w' => ∃ ao c, e = .returned (.slice ao 0 c) ∧ OwnE w.heap.size w.heap.size w w' ao c [] := by
 by_cases h0 : n = 0
 ·subst h0
  refine Calls.mono (Any8.slices_Grow_room Tryz.growEn none 0 0 0 w (Nat.le_refl _) (by omega) (by omega) (Nat.le_refl _)) ?_
  rintro e w' ⟨rfl, rfl⟩
  exact ⟨none, 0, rfl, OwnE.nil (Below.refl _ _) (Nat.le_refl _) (Nat.le_refl _)⟩
 ·obtain ⟨i0, hi, hz0, hz1, hz2⟩ := info_parts info28
  have h := Any8.slices_Grow_grow Tryz.growEn i0 _ hi hz0 (by rw [hz1]; omega) none 0 0 n [] w (Nat.le_refl _) (by omega) (by rw [hz2]; omega) (by omega) (by simp) (fun _ => rfl) (fun a ha => by cases ha)
  rw [show Tryz.growEn_ren.t 25 = 46 from rfl] at h
  refine Calls.mono h ?_
  rintro e w' ⟨rfl, rfl⟩
  have hge := grownCap_ge w (0 + n) 0 46
  have hle := grownCap_le_maxLen w (0 + n) 0 46 (by unfold maxLen; omega)
  refine ⟨some ⟨w.heap.size, 0, none⟩, grownCap w (0 + n) 0 46, rfl, ⟨rfl, Or.inr ⟨w.heap.size, grownCap w (0 + n) 0 46, _, rfl, Nat.le_refl _, heap_alloc_new w.drew _, Nat.zero_le _, hle, ?_, by simp [ecs]⟩⟩, (below_drew1 w).trans ((below_new w.drew _).mono (Nat.le_refl _)), by simp, Nat.le_refl _⟩
  have hc : (Value.agg #[.int .i64 0, .int .i64 0, .string ⟨#[]⟩, .int .i64 0]).cells = EC en0 := by simp [Value.cells]; rfl
  rw [hc]
  simp only [Array.size_append, zc_size]
  rw [Nat.zero_add] at hge ⊢
  simp
  omega
theorem OwnE.appendAll {B0 B : Nat} {w w' : World} {ao : Option Addr} {cap : Nat} {acc : List En} (O : OwnE B0 B w w' ao cap acc) (bo : Option Addr) (m c : Nat) (R : List En) (hR : ESrc w' bo m c R) (hlen : acc.length + m ≤ 3518437208883)
  {ops : Array Oper} {rest : List Oper} {o : Oper} {a : Act} {Q : Exit → Act → World → Prop} (hgd : o.guard = none) (s x : Operand) (ho : o.op = .call { callee := .builtin .append, args := #[s, x], argTypes := #[22, 22] })
  (n : Nat) (hn : acc.length = n) (hs : a.eval s = .slice ao n cap) (hx : a.eval x = .slice bo m c)
  (hK : ∀ (ap : Option Addr) (cap2 : Nat) (w2 : World), OwnE B0 B w w2 ap cap2 (acc ++ R) → wpList Tryz.prog ops Q rest (a.put o.dst (.slice ap (n + m) cap2)) w2) :
  wpList Tryz.prog ops Q (o :: rest) a w' := by
 subst hn
 obtain ⟨i0, hi, hz0, hz1, hz2⟩ := info_parts info28
 have hB := O.hB
 have hB0 := O.hB0
 cases bo with
 | none =>
  obtain ⟨rfl, rfl⟩ := hR.2.1 rfl
  obtain rfl : R = [] := List.eq_nil_of_length_eq_zero hR.1
  refine wpList_append_own_none hgd s x 22 ho B 46 i0 4 Tryz.underlying22 hi _ acc.length (ecs acc) hs O.own hx ?_
  have := hK ao cap w' (by rw [List.append_nil]; exact O)
  exact this
 | some ad =>
  refine wpList_append_own _ hgd s x 22 ho B 46 i0 (.agg #[.int .i64 0, .int .i64 0, .string ⟨#[]⟩, .int .i64 0]) 4 40 Tryz.underlying22 hi hz0 hz1 hz2 rfl (by decide) _ acc.length (ecs acc) hs O.own ad m c (ecs R) hx (by rw [ecs_length, hR.1]) (fun j u hj => hR.cells j u hj) (ecs_onecell R) (by unfold maxLen; omega) (by omega) hB ?_
  intro v' w2 hown hgrow _
  have hrow : ∀ k, (Value.slice ao acc.length cap).ownBlock = some k → B ≤ k := fun k hk => (O.own.lt k hk).1
  have hsz := hgrow.size
  have hbel : Below B0 w w2 := O.below.grown hgrow (by omega) (fun k hk => by have := hrow k hk; omega)
  have hm : m = R.length := hR.1.symm
  have hown2 : w2.ownsRow B 46 4 v' (acc ++ R).length (ecs (acc ++ R)) := by rw [List.length_append, ecs_append, ← hm]; exact hown
  rcases hown.2 with ⟨h0, h00⟩ | ⟨g, cap2, cur, hv, r⟩
  ·subst h0
   have e0 : acc.length + m = 0 := h00
   have := hK none 0 w2 ⟨by rw [List.length_append, ← hm, e0] at hown2; rw [List.length_append, ← hm, e0]; exact hown2, hbel, by omega, hB0⟩
   rwa [e0] at this
  ·subst hv
   exact hK (some ⟨g, 0, none⟩) cap2 w2 ⟨by rw [List.length_append, ← hm] at hown2 ⊢; exact hown2, hbel, by omega, hB0⟩
set_option maxRecDepth 100000 in
set_option maxHeartbeats 4000000 in
theorem concat_any (gb : Nat) (ao bo : Option Addr) (n cap m cap' : Nat) (L R : List En) (w : World) (hS : ESrc w ao n cap L) (hR : ESrc w bo m cap' R) (c0 : w.cell? ⟨gb, 0, none⟩ = some (.slice ao n cap)) (c1 : w.cell? ⟨gb, 1, none⟩ = some (.slice bo m cap')) (hlen : n + m ≤ 3518437208883) :
  Calls Tryz.prog 92 #[.slice (some ⟨gb, 0, none⟩) 2 2] w fun e w' => ∃ ap c, e = .returned (.slice ap (n + m) c) ∧ OwnE w.heap.size w.heap.size w w' ap c (L ++ R) := by
 have HS := hide hS
 have HR := hide hR
 have HL : Hid (L.length = n) := hS.1
 have HLR : Hid (R.length = m) := hR.1
 have HC0 := hide c0
 have HC1 := hide c1
 clear hS hR
 go_enter Tryz.func92, Tryz.ntmps92
 go_wp2_with fail
 go_loopw [3, 5, 11] (fun s _ i wr => ∃ k z : Nat, k ≤ 2 ∧ s = .int .i64 z ∧ i = .int .i64 k ∧ z = (if k = 0 then 0 else if k = 1 then n else n + m) ∧ w = wr) (fun _ _ i _ => 2 - (intOf i).toNat)
 case atStart => exact ⟨0, 0, Nat.zero_le _, rfl, rfl, rfl, rfl⟩
 case round =>
  obtain ⟨k, z, hk, rfl, rfl, hz, rfl⟩ := hrel
  by_cases h2 : k = 2
  ·subst h2
   simp at hz
   subst hz
   clear c0 c1
   go_wp2_with fail
   refine (grow_nil (n + m) _ hlen).mono ?_
   rintro e w3 ⟨a3, c3, rfl, O3⟩
   have HO3 := hide O3
   clear O3
   go_wp2_with fail
   go_loopw [6, 8, 27] (fun v _ i wr => ∃ (k : Nat) (ap : Option Addr) (c : Nat) (acc : List En), k ≤ 2 ∧ v = .slice ap acc.length c ∧ i = .int .i64 k ∧ Hid (acc = (if k = 0 then [] else if k = 1 then L else L ++ R) ∧ OwnE w.heap.size w.heap.size w wr ap c acc)) (fun _ _ i _ => 2 - (intOf i).toNat)
   case atStart => exact ⟨0, a3, c3, [], Nat.zero_le _, rfl, rfl, rfl, HO3.out⟩
   case round =>
    clear HO3
    obtain ⟨k, ap, c, acc, hk, rfl, rfl, H⟩ := hrel
    rename World => w4
    have d0 : w4.cell? ⟨gb, 0, none⟩ = some (.slice ao n cap) := by rw [H.out.2.below.cell (World.block_lt_of_cell? _ _ HC0.out)]; exact HC0.out
    have d1 : w4.cell? ⟨gb, 1, none⟩ = some (.slice bo m cap') := by rw [H.out.2.below.cell (World.block_lt_of_cell? _ _ HC1.out)]; exact HC1.out
    by_cases h2 : k = 2
    ·subst h2
     have HF : Hid (∃ c', (Value.slice ap acc.length c : Value) = .slice ap (n + m) c' ∧ OwnE w.heap.size w.heap.size w w4 ap c' (L ++ R)) := by
      have e : acc = L ++ R := H.out.1
      rw [e, List.length_append, HL.out, HLR.out]
      exact ⟨c, rfl, by rw [← e]; exact H.out.2⟩
     clear d0 d1
     go_wp2_with fail
     go_ret
     obtain ⟨c', e1, e2⟩ := HF.out
     exact ⟨ap, c', by rw [e1]; rfl, e2⟩
    ·by_cases h1 : k = 1
     ·subst h1
      have e : acc = L := H.out.1
      have hal : acc.length = n := by rw [e]; exact HL.out
      have HR4 := hide (HR.out.below H.out.2.below)
      go_wp2_with (at_builtin; refine H.out.2.appendAll bo m cap' R HR4.out (by omega) rfl (.tmp 31) (.tmp 32) rfl acc.length rfl rfl rfl ?_; intro a5 c5 w5 O5)
      go_roundw
      case rel => exact ⟨1 + 1, a5, c5, acc ++ R, by omega, by simp [List.length_append, HLR.out, HL.out, e], by go_num, by rw [e]; rfl, O5⟩
      case measure => simp [intOf]
     ·obtain rfl : k = 0 := by omega
      have e : acc = [] := H.out.1
      have hal : acc.length = 0 := by rw [e]; rfl
      have HS4 := hide (HS.out.below H.out.2.below)
      go_wp2_with (at_builtin; refine H.out.2.appendAll ao n cap L HS4.out (by omega) rfl (.tmp 31) (.tmp 32) rfl acc.length rfl rfl rfl ?_; intro a5 c5 w5 O5)
      go_roundw
      case rel => exact ⟨0 + 1, a5, c5, acc ++ L, by omega, by simp [HL.out, e], by go_num, by rw [e]; rfl, O5⟩
      case measure => simp [intOf]
  ·by_cases h1 : k = 1
   ·subst h1
    simp at hz
    subst hz
    go_wp2_with fail
    go_roundw
    case rel => exact ⟨1 + 1, z + m, by omega, by go_num, by go_num, rfl, trivial⟩
    case measure => simp [intOf]
   ·obtain rfl : k = 0 := by omega
    simp at hz
    subst hz
    go_wp2_with fail
    go_roundw
    case rel => exact ⟨0 + 1, n, by omega, by go_num, by go_num, rfl, trivial⟩
    case measure => simp [intOf]
end Go.Proofs.YtmbkmpeongodbaaGreat.K
namespace Go.Proofs.YtmbkmpeongodbaaGreat.K
open Go.RowKit

def code (e : En) : Int := e.rep * 1000000000 + e.num
theorem code_lt {x y : En} (hx : ceE x = 0) (hy : ceE y = 0) (h : ahead x y = true) : code x < code y := by
 have bx : ∀ z : En, ceE z = 0 → (0 ≤ z.rep ∧ z.rep < 16) ∧ 1 ≤ z.num ∧ z.num ≤ 1000000000 := by
  intro z hz
  unfold ceE at hz
  by_cases h1 : isR z.rep = false
  ·rw [if_pos h1] at hz; omega
  ·rw [if_neg h1] at hz
   by_cases h2 : z.num < 1 ∨ 1000000000 < z.num
   ·rw [if_pos h2] at hz; omega
   ·have h1' : isR z.rep = true := by simpa using h1
    unfold isR at h1'
    simp at h1'
    exact ⟨h1', by omega, by omega⟩
 have b1 := bx x hx
 have b2 := bx y hy
 simp [ahead] at h
 unfold code
 omega
theorem code_bd {z : En} (hz : ceE z = 0) : 1 ≤ code z ∧ code z ≤ 16000000000 := by
 unfold ceE at hz
 by_cases h1 : isR z.rep = false
 ·rw [if_pos h1] at hz; omega
 ·rw [if_neg h1] at hz
  by_cases h2 : z.num < 1 ∨ 1000000000 < z.num
  ·rw [if_pos h2] at hz; omega
  ·have h1' : isR z.rep = true := by simpa using h1
   unfold isR at h1'
   simp at h1'
   unfold code
   omega
theorem okN_at (L : List En) (n : Nat) (h : okN L n = true) (k : Nat) (hk : k < n) : okAt L k = true := by
 unfold okN at h
 exact List.all_eq_true.1 h k (List.mem_range.2 hk)
theorem chk_zero {L : List En} (h : chk L = 0) : okN L L.length = true := by
 unfold chk at h
 by_cases e : okN L L.length = true
 ·exact e
 ·rw [if_neg e] at h; omega
theorem chk_len {L : List En} (h : chk L = 0) : L.length ≤ 16000000000 := by
 have ho := chk_zero h
 have key : ∀ k, k < L.length → ((k : Nat) : Int) + 1 ≤ code (L.getD k en0) := by
  intro k
  induction k with
  | zero =>
   intro hk
   have := okN_at L _ ho 0 hk
   simp [okAt] at this
   have := code_bd this
   simpa using this.1
  | succ k ih =>
   intro hk
   have h1 := okN_at L _ ho (k + 1) hk
   have h0 := okN_at L _ ho k (by omega)
   simp only [okAt, Bool.and_eq_true, beq_iff_eq, Bool.or_eq_true, decide_eq_true_eq, Nat.add_sub_cancel] at h0 h1
   have ha : ahead (L.getD k en0) (L.getD (k + 1) en0) = true := by
    rcases h1.2 with e | e
    ·omega
    ·exact e
   have := code_lt h0.1 h1.1 ha
   have := ih (by omega)
   omega
 rcases Nat.eq_zero_or_pos L.length with h0 | h0
 ·omega
 ·have h1 := key (L.length - 1) (by omega)
  have h2 := okN_at L _ ho (L.length - 1) (by omega)
  simp only [okAt, Bool.and_eq_true, beq_iff_eq] at h2
  have := (code_bd h2.1).2
  omega
end Go.Proofs.YtmbkmpeongodbaaGreat.K
namespace Go.Proofs.YtmbkmpeongodbaaGreat.K
open Go.RowKit Go.Lib
attribute [local go_sem ↓] ld28_eq st28_eq
attribute [local go_sem] zero_EC cells_EV EC_size fold_EC
def UnionOf (A B R : List En) (er : Int) : Prop := (¬ (chk A = 0 ∧ chk B = 0) ∧ R = [] ∧ er = 1) ∨ ((chk A = 0 ∧ chk B = 0) ∧ Settled (A ++ B) R er)
def GivesU (w w' : World) (e : Ending) (A B : List En) : Prop := ∃ ao n c R er, e = .returned (.tuple #[.slice ao n c, .int .i64 er]) ∧ ESrc w' ao n c R ∧ Below w.heap.size w w' ∧ UnionOf A B R er
theorem unionBad {w w' : World} {A B : List En} (h : ¬ (chk A = 0 ∧ chk B = 0)) (hb : Below w.heap.size w w') : GivesU w w' (.returned (.tuple #[.slice none 0 0, .int .i64 1])) A B :=
 ⟨none, 0, 0, [], 1, rfl, ESrc.none _, hb, Or.inl ⟨h, rfl, rfl⟩⟩
set_option maxRecDepth 100000 in
set_option maxHeartbeats 4000000 in
theorem union_any (ao bo : Option Addr) (n cap m cap' : Nat) (A B : List En) (w : World) (hS : ESrc w ao n cap A) (hR : ESrc w bo m cap' B) :
  Calls Tryz.prog 44 #[.slice ao n cap, .slice bo m cap'] w fun e w' => GivesU w w' e A B := by
 have HS := hide hS
 have HR := hide hR
 clear hS hR
 obtain ⟨p, Hp⟩ : ∃ p, Hid (chk A = p) := ⟨_, rfl⟩
 obtain ⟨q, Hq⟩ : ∃ q, Hid (chk B = q) := ⟨_, rfl⟩
 by_cases h1 : p = 0
 ·by_cases h2 : q = 0
  ·have HA : Hid (chk A = 0 ∧ chk B = 0) := ⟨Hp.out.trans h1, Hq.out.trans h2⟩
   have d1 : (p != 0) = false := by simpa using h1
   have d2 : (q != 0) = false := by simpa using h2
   have hlen : n + m ≤ 3518437208883 := by
    have l1 := chk_len HA.out.1
    have l2 := chk_len HA.out.2
    rw [HS.out.1] at l1
    rw [HR.out.1] at l2
    omega
   clear h1 h2
   go_enter Tryz.func44, Tryz.ntmps44
   go_wp2_with fail
   refine (lcheck_any ao n cap A _ HS.out).mono ?_
   rintro e w1 ⟨rfl, b1⟩
   rw [Hp.out]
   have HB1 := hide b1
   clear b1
   go_wp2_with fail
   refine (lcheck_any bo m cap' B _ (HR.out.below HB1.out)).mono ?_
   rintro e w2 ⟨rfl, b2⟩
   rw [Hq.out]
   have HB2 := hide (HB1.out.trans (b2.mono HB1.out.size))
   clear b2
   go_wp2_with fail
   have B3 := below_new w2 (.cells #[.slice ao n cap, .slice bo m cap'] 22)
   have k0 : (w2.alloc (.cells #[.slice ao n cap, .slice bo m cap'] 22)).cell? ⟨w2.heap.size, 0, none⟩ = some (.slice ao n cap) := by simp
   have k1 : (w2.alloc (.cells #[.slice ao n cap, .slice bo m cap'] 22)).cell? ⟨w2.heap.size, 1, none⟩ = some (.slice bo m cap') := by simp
   have HB3 := hide (HB2.out.trans (B3.mono HB2.out.size))
   refine (concat_any w2.heap.size ao bo n cap m cap' A B _ (HS.out.below HB3.out) (HR.out.below HB3.out) k0 k1 hlen).mono ?_
   rintro e w4 ⟨a4, c4, rfl, O4⟩
   have HO4 := hide O4
   have HB4 := hide (HB3.out.trans (O4.below.mono HB3.out.size))
   have HZ : Hid (w.heap.size ≤ (w2.alloc (.cells #[.slice ao n cap, .slice bo m cap'] 22)).heap.size) := HB3.out.size
   have hsk : ∀ e ∈ A ++ B, e.sku.size ≤ maxLen := fun e he => by
    rcases List.mem_append.1 he with h | h
    ·exact HS.out.2.2.2.1 e h
    ·exact HR.out.2.2.2.1 e h
   have HSK := hide hsk
   have HLL : Hid ((A ++ B).length = n + m) := by show _ = _; rw [List.length_append, HS.out.1, HR.out.1]
   clear O4 B3 k0 k1 hsk
   cases a4 with
   | none =>
    obtain ⟨S4, _⟩ := HO4.out.src HSK.out (by rw [HLL.out]; exact hlen)
    obtain ⟨e1, rfl⟩ := S4.2.1 rfl
    have HE : Hid (A ++ B = []) := List.eq_nil_of_length_eq_zero e1
    have hnm : n + m = 0 := by rw [← HLL.out]; exact e1
    rw [hnm]
    clear S4 e1
    go_wp2_with fail
    refine (rising0 none 0 _).mono ?_
    rintro e w6 ⟨rfl, b6⟩
    have HN : Hid (GivesU w w6 (.returned (.tuple #[.slice none 0 0, .int .i64 0])) A B) := ⟨none, 0, 0, [], 0, rfl, ESrc.none _, HB4.out.trans (b6.mono HB4.out.size), Or.inr ⟨HA.out, by rw [HE.out]; exact settled_nil⟩⟩
    clear b6
    go_wp2_with fail
    go_ret2
    exact HN.out
   | some a4 =>
    obtain ⟨M4, hc1, hc2, hbb⟩ := HO4.out.mr
    have HM4 := hide M4
    have HC1 : Hid (n + m ≤ c4) := by show _ ≤ _; rw [← HLL.out]; exact hc1
    have HC2 := hide hc2
    have HBB : Hid (w.heap.size ≤ a4.block) := Nat.le_trans HZ.out hbb
    clear M4 hc1 hc2 hbb
    go_wp2_with fail
    refine (rising_any a4 c4 (n + m) (A ++ B).toArray _ HM4.out (by rw [List.size_toArray]; exact HLL.out) hlen HC1.out HC2.out (by simpa using HSK.out)).mono ?_
    rintro e w6 ⟨a6, n6, c6, R6, er, rfl, S6, b6, f6, t6⟩
    have HN : Hid (GivesU w w6 (.returned (.tuple #[.slice a6 n6 c6, .int .i64 er])) A B) :=
     ⟨a6, n6, c6, R6, er, rfl, S6, HB4.out.trans (b6.mono HBB.out), Or.inr ⟨HA.out, by simpa using t6⟩⟩
    clear S6 b6 f6 t6
    go_wp2_with fail
    go_ret2
    exact HN.out
  ·have HX : Hid (¬ (chk A = 0 ∧ chk B = 0)) := fun h => h2 (Hq.out.symm.trans h.2)
   have d1 : (p != 0) = false := by simpa using h1
   have d2 : (q != 0) = true := by simpa using h2
   clear h1 h2
   go_enter Tryz.func44, Tryz.ntmps44
   go_wp2_with fail
   refine (lcheck_any ao n cap A _ HS.out).mono ?_
   rintro e w1 ⟨rfl, b1⟩
   rw [Hp.out]
   have HB1 := hide b1
   clear b1
   go_wp2_with fail
   refine (lcheck_any bo m cap' B _ (HR.out.below HB1.out)).mono ?_
   rintro e w2 ⟨rfl, b2⟩
   rw [Hq.out]
   have HB2 := hide (HB1.out.trans (b2.mono HB1.out.size))
   clear b2
   go_wp2_with fail
   go_ret2
   exact unionBad HX.out HB2.out
 ·have HX : Hid (¬ (chk A = 0 ∧ chk B = 0)) := fun h => h1 (Hp.out.symm.trans h.1)
  have d1 : (p != 0) = true := by simpa using h1
  clear h1
  go_enter Tryz.func44, Tryz.ntmps44
  go_wp2_with fail
  refine (lcheck_any ao n cap A _ HS.out).mono ?_
  rintro e w1 ⟨rfl, b1⟩
  rw [Hp.out]
  have HB1 := hide b1
  clear b1
  go_wp2_with fail
  go_ret2
  exact unionBad HX.out HB1.out
end Go.Proofs.YtmbkmpeongodbaaGreat.K
namespace Go.Proofs.YtmbkmpeongodbaaGreat.K
open Go.RowKit

theorem chk_asc {R : List En} (ha : Asc R) (hc : ∀ e ∈ R, ceE e = 0) : chk R = 0 := by
 have key : okN R R.length = true := by
  unfold okN
  rw [List.all_eq_true]
  intro k hk
  have hk' := List.mem_range.1 hk
  unfold okAt
  rw [Bool.and_eq_true]
  refine ⟨?_, ?_⟩
  ·rw [beq_iff_eq]; exact hc _ (getD_mem R k hk')
  ·cases k with
   | zero => rfl
   | succ j =>
    have h := List.pairwise_iff_getElem.1 ha j (j + 1) (by omega) hk' (by omega)
    have e1 : R.getD j en0 = R[j] := by simp [List.getD, show j < R.length by omega]
    have e2 : R.getD (j + 1) en0 = R[j + 1] := by simp [List.getD, hk']
    simp only [Nat.add_sub_cancel, e1, e2, h, Bool.or_true]
 unfold chk; rw [if_pos key]
theorem chk_asc' {R : List En} (h : chk R = 0) : Asc R := by
 refine asc_of_adj R (fun i hi => ?_)
 have := okN_at R _ (chk_zero h) (i + 1) hi
 unfold okAt at this
 rw [Bool.and_eq_true] at this
 simpa using this.2
end Go.Proofs.YtmbkmpeongodbaaGreat.K
namespace Go.Proofs.YtmbkmpeongodbaaGreat
open Go.RowKit
theorem chk_ce {L : List K.En} (h : K.chk L = 0) : ∀ e ∈ L, K.ceE e = 0 := fun e he => by
 obtain ⟨k, hk, rfl⟩ := List.getElem_of_mem he
 have h1 := K.okN_at L _ (K.chk_zero h) k hk
 unfold K.okAt at h1
 rw [Bool.and_eq_true] at h1
 have e1 : L.getD k K.en0 = L[k] := by simp [List.getD, List.getElem?_eq_getElem hk]
 rw [e1] at h1
 simpa using h1.1
theorem ce_dot {e : K.En} (h : K.ceE e = 0) : okD (dotOf e) = true := by
 unfold K.ceE at h
 by_cases h1 : K.isR e.rep = false
 ·rw [if_pos h1] at h; cases h
 ·rw [if_neg h1] at h
  by_cases h2 : e.num < 1 ∨ 1000000000 < e.num
  ·rw [if_pos h2] at h; cases h
  ·have h3 : K.isR e.rep = true := by simpa using h1
   unfold okD dotOf V.isR
   unfold K.isR at h3
   simp only [Bool.and_eq_true, decide_eq_true_eq] at h3 ⊢
   exact ⟨h3, by omega, by omega⟩
theorem dot_one {L : List K.En} (h : K.chk L = 0) {x y : K.En} (hx : x ∈ L) (hy : y ∈ L) (e : dotOf x = dotOf y) : x = y := by
 apply Classical.byContradiction
 intro hn
 refine K.asc_noclash (K.chk_asc' h) (fun _ => Iff.rfl) ⟨x, hx, y, hy, ?_, hn⟩
 unfold dotOf at e
 simp only [Rn.mk.injEq] at e
 simp [K.sameDot, e.1, e.2]
theorem ce_sku {e : K.En} (h : K.ceE e = 0) : ¬ e.sku.size = 0 := by
 intro h0
 have hn : e.sku.data.toList = [] := by
  apply List.eq_nil_of_length_eq_zero
  rw [K.len_at]; exact h0
 unfold K.ceE at h
 by_cases h1 : K.isR e.rep = false
 ·rw [if_pos h1] at h; cases h
 ·rw [if_neg h1] at h
  by_cases h2 : e.num < 1 ∨ 1000000000 < e.num
  ·rw [if_pos h2] at h; cases h
  ·rw [if_neg h2, hn] at h
   have hg : K.good ([] : List UInt8) = false := by decide
   simp [hg] at h
def BX (L : List K.En) (F : List Rc) (X : List Pv) : Prop := (∀ r : Nat, r < 16 → ∀ m, (∃ p ∈ X, mem (runsAt p.P r) m) ↔ ∃ f ∈ F, mem (dotsG (dotsS L f.s) r) m ∧ mem (runsAt f.p.P r) m) ∧ wt X ≤ F.length * (L.length + 1)
theorem BX.nil (L : List K.En) : BX L [] [] := ⟨fun r _ m => by simp, Nat.zero_le _⟩
theorem BX.snoc {L : List K.En} {F : List Rc} {X : List Pv} (h : BX L F X) {f : Rc} {D : Pst} {p : Pv} (hD : CanonOf (dotsG (dotsS L f.s)) D) (hm : ∃ C : Nat → List Rn, (∀ r, r < 16 → MeetOf (runsAt D r) (runsAt f.p.P r) (C r)) ∧ CanonOf C p.P) : BX L (F ++ [f]) (X ++ [p]) := by
 obtain ⟨C, hC, hP⟩ := hm
 have key : ∀ r : Nat, r < 16 → ∀ m, mem (C r) m ↔ mem (dotsG (dotsS L f.s) r) m ∧ mem (runsAt f.p.P r) m := fun r hr m => by rw [(hC r hr).2 m, canon_mem hD r hr m]
 refine ⟨fun r hr m => ?_, ?_⟩
 ·constructor
  ·rintro ⟨q, hq, hm⟩
   rcases List.mem_append.1 hq with hq | hq
   ·obtain ⟨g, hg, h1⟩ := (h.1 r hr m).1 ⟨q, hq, hm⟩
    exact ⟨g, List.mem_append_left _ hg, h1⟩
   ·obtain rfl : q = p := by simpa using hq
    rw [canon_mem hP r hr m, key r hr m] at hm
    exact ⟨f, by simp, hm⟩
  ·rintro ⟨g, hg, h1⟩
   rcases List.mem_append.1 hg with hg | hg
   ·obtain ⟨q, hq, h2⟩ := (h.1 r hr m).2 ⟨g, hg, h1⟩
    exact ⟨q, List.mem_append_left _ hq, h2⟩
   ·obtain rfl : g = f := by simpa using hg
    exact ⟨p, by simp, by rw [canon_mem hP r hr m, key r hr m]; exact h1⟩
 ·have h1 : p.P.cloud.length ≤ (dotsS L f.s).length := canon_count hP _ (fun r hr n hn => by
   obtain ⟨d, hd, -, e1, e2⟩ := (dotsG_mem _ _ _).1 ((key r hr n).1 hn).1
   have : d = ⟨(r : Int), n⟩ := by cases d; simp_all
   rw [← this]; exact hd)
  have h2 := dotsS_len L f.s
  have h3 := h.2
  rw [wt_append, List.length_append]
  simp only [wt, List.length_cons, List.length_nil]
  rw [Nat.add_mul]
  omega
theorem sku_eq {a b : ByteArray} (h : (a.toList == b.toList) = true) : a = b := by
 rw [beq_iff_eq, ByteArray.toList_eq, ByteArray.toList_eq] at h
 cases a; cases b
 simp at h
 rw [h]
theorem sku_refl (a : ByteArray) : (a.toList == a.toList) = true := by simp
theorem nilF_of {s : ByteArray} (h : s.size = 0) : s = nilF := by
 obtain ⟨d⟩ := s
 have : d = #[] := Array.eq_empty_of_size_eq_zero h
 rw [this]; rfl
theorem cov_iff {e : K.En} (he : okD (dotOf e) = true) (r : Rc) : covB r e = true ↔ (r.s = nilF ∨ r.s = e.sku) ∧ mem (runsAt r.p.P e.rep.toNat) e.num := by
 unfold covB
 rw [Bool.and_eq_true, inB_iff, Bool.or_eq_true, decide_eq_true_eq]
 have h1 : V.isR e.rep = true := by
  unfold okD dotOf at he
  simp only [Bool.and_eq_true] at he
  exact he.1
 constructor
 ·rintro ⟨h2, h3⟩
  refine ⟨h2.elim (fun h => .inl (nilF_of h)) (fun h => .inr (sku_eq h)), h3.2⟩
 ·rintro ⟨h2, h3⟩
  refine ⟨h2.elim (fun h => .inl (by rw [h]; rfl)) (fun h => .inr (by rw [h]; exact sku_refl _)), h1, h3⟩
theorem free_of {L : List K.En} {R F : List Rc} (hc : K.chk L = 0) (hF : FoldOf R F) {X : List Pv} (hX : BX L F X) {P : Pst} (hP : CanonOf (runsOf X) P) : L.filter (pkB P false) = L.filter (freeB R) := by
 apply List.filter_congr
 intro e he
 have hd := ce_dot (chk_ce hc e he)
 have hs := ce_sku (chk_ce hc e he)
 have hR : V.isR e.rep = true := by
  have h := hd
  unfold okD dotOf at h
  simp only [Bool.and_eq_true] at h
  exact h.1
 have hr : 0 ≤ e.rep ∧ e.rep < 16 := by simpa [V.isR] using hR
 have hrn : e.rep.toNat < 16 := by omega
 have hdot : ∀ s : ByteArray, mem (dotsG (dotsS L s) e.rep.toNat) e.num ↔ (s = nilF ∨ s = e.sku) := fun s => by
  rw [dotsG_mem]
  unfold dotsS
  constructor
  ·rintro ⟨d, hd1, -, h1, h2⟩
   obtain ⟨x, hx, rfl⟩ := List.mem_map.1 hd1
   obtain ⟨hx1, hx2⟩ := List.mem_filter.1 hx
   have ed : dotOf x = dotOf e := by
    unfold dotOf at h1 h2 ⊢
    simp only at h1 h2
    congr 1
    omega
   have := dot_one hc hx1 he ed
   subst this
   rw [Bool.or_eq_true, decide_eq_true_eq, decide_eq_true_eq] at hx2
   exact hx2.elim (fun h => .inl (nilF_of h)) (fun h => .inr h.symm)
  ·intro h
   refine ⟨dotOf e, List.mem_map.2 ⟨e, List.mem_filter.2 ⟨he, ?_⟩, rfl⟩, hd, by unfold dotOf; simp only; omega, rfl⟩
   rw [Bool.or_eq_true, decide_eq_true_eq, decide_eq_true_eq]
   exact h.elim (fun h => .inl (by rw [h]; rfl)) (fun h => .inr h.symm)
 have hin : inB P e = true ↔ ∃ f ∈ F, (f.s = nilF ∨ f.s = e.sku) ∧ FoldM R f.s e.rep.toNat e.num := by
  rw [inB_iff]
  unfold dotIn
  simp only [hR, true_and]
  rw [canon_mem hP _ hrn, runsOf_mem, hX.1 _ hrn]
  constructor
  ·rintro ⟨f, hf, h1, h2⟩
   refine ⟨f, hf, (hdot f.s).1 h1, ?_⟩
   obtain ⟨C, hC, hI⟩ := (hF.2.1 f hf).2.1
   exact (hI _ hrn _).1 ((canon_mem hC _ hrn _).1 h2)
  ·rintro ⟨f, hf, h1, h2⟩
   refine ⟨f, hf, (hdot f.s).2 h1, ?_⟩
   obtain ⟨C, hC, hI⟩ := (hF.2.1 f hf).2.1
   exact (canon_mem hC _ hrn _).2 ((hI _ hrn _).2 h2)
 have hin2 : inB P e = true ↔ R.any (fun r => covB r e) = true := by
  rw [hin, List.any_eq_true]
  constructor
  ·rintro ⟨f, hf, h1, ⟨x, hx, hxs, hm⟩, -⟩
   exact ⟨x, hx, (cov_iff hd x).2 ⟨by rw [hxs]; exact h1, hm⟩⟩
  ·rintro ⟨r, hr1, hcv⟩
   obtain ⟨h1, h2⟩ := (cov_iff hd r).1 hcv
   have step : ∀ s, (s = nilF ∨ s = e.sku) → FoldM R s e.rep.toNat e.num → ∃ f ∈ F, (f.s = nilF ∨ f.s = e.sku) ∧ FoldM R f.s e.rep.toNat e.num := fun s hs1 hM => by
    obtain ⟨x, hx, hxs, -⟩ := hM.1
    apply Classical.byContradiction
    intro hn
    refine hF.2.2 s ⟨x, hx, hxs⟩ (fun f hf hfs => hn ⟨f, hf, by rw [hfs]; exact hs1, by rw [hfs]; exact hM⟩) _ hrn _ hM
   by_cases hz : ∃ x ∈ R, x.s = nilF ∧ mem (runsAt x.p.P e.rep.toNat) e.num
   ·exact step nilF (.inl rfl) ⟨hz, fun h => absurd rfl h⟩
   ·rcases h1 with h1 | h1
    ·exact absurd ⟨r, hr1, h1, h2⟩ hz
    ·exact step e.sku (.inr rfl) ⟨⟨r, hr1, h1, h2⟩, fun _ => hz⟩
 unfold pkB freeB
 cases h1 : inB P e <;> cases h2 : R.any (fun r => covB r e)
 ·rfl
 ·rw [h1, h2] at hin2; exact absurd (hin2.2 rfl) (by decide)
 ·rw [h1, h2] at hin2; exact absurd (hin2.1 rfl) (by decide)
 ·rfl
theorem free_nil {L : List K.En} {R : List Rc} (hc : K.chk L = 0) (hF : FoldOf R []) : L.filter (freeB R) = L := by
 have h := free_of hc hF (BX.nil L) (P := pv0.P) ⟨fun _ => [], fun _ _ => ⟨trivial, fun _ => Iff.rfl⟩, by decide⟩
 rw [← h]
 apply List.filter_eq_self.2
 intro e _
 have : inB pv0.P e = false := by
  cases hb : inB pv0.P e
  ·rfl
  ·rw [inB_iff] at hb
   unfold dotIn at hb
   obtain ⟨h1, h2⟩ := hb
   exact absurd h2 (by unfold runsAt pv0; simp [vecPart, cloudPart, V.at', mem, V.clamp])
 unfold pkB
 rw [this]
 rfl
end Go.Proofs.YtmbkmpeongodbaaGreat
namespace Go.Proofs.YtmbkmpeongodbaaGreat

def Least (P : Int → Prop) (k : Int) : Prop := (k = 0 ∧ ∀ n, ¬ P n) ∨ (1 ≤ k ∧ P k ∧ ∀ n, P n → k ≤ n)
def Most (A : List Rn) (k : Int) : Prop := (k = 0 ∧ ∀ n, ¬ mem A n) ∨ (mem A k ∧ ∀ n, mem A n → n ≤ k)
theorem Most.unique {A : List Rn} {k l : Int} (h : Most A k) (h' : Most A l) : k = l := by
 rcases h with ⟨e, h⟩ | ⟨h2, h3⟩ <;> rcases h' with ⟨e', h'⟩ | ⟨h2', h3'⟩
 ·rw [e, e']
 ·exact absurd h2' (h _)
 ·exact absurd h2 (h' _)
 ·have := h3 _ h2'; have := h3' _ h2; omega
theorem Most.congr {A B : List Rn} {k : Int} (h : Most A k) (e : ∀ n, mem A n ↔ mem B n) : Most B k := by
 rcases h with ⟨a, h⟩ | ⟨h2, h3⟩
 ·exact Or.inl ⟨a, fun n hn => h n ((e n).2 hn)⟩
 ·exact Or.inr ⟨(e _).1 h2, fun n hn => h3 n ((e n).2 hn)⟩
theorem Most.bd {A : List Rn} {k : Int} (h : Most A k) : 0 ≤ k ∧ k ≤ 1000000000 := by
 rcases h with ⟨a, _⟩ | ⟨h2, _⟩
 ·omega
 ·exact ⟨by have := h2.1; omega, h2.2.1⟩
theorem Most.start : Most [] 0 := Or.inl ⟨rfl, mem_nil⟩
theorem Most.last {i : List Rn} {r : Rn} (h : form 1 (i ++ [r])) : Most (i ++ [r]) r.hi := by
 have hl := form_last h
 refine Or.inr ⟨(mem_append _ _ _).2 (Or.inr ((mem_one _ _).2 (by omega))), fun n hn => ?_⟩
 rcases (mem_append _ _ _).1 hn with e | e
 ·have : ∀ (i : List Rn) (l : Int), form l (i ++ [r]) → mem i n → n ≤ r.hi := by
   intro i
   induction i with
   | nil => intro l _ hm; exact absurd hm (mem_nil n)
   | cons s i ih =>
    intro l hf hm
    rcases (mem_cons _ _ _).1 hm with g | g
    ·have := form_last hf.2.2.2; omega
    ·exact ih _ hf.2.2.2 g
  exact this i 1 h e
 ·exact ((mem_one _ _).1 e).2.2.2
theorem form_take {a : List Rn} : ∀ {l : Int} (k : Nat), form l a → form l (a.take k) := by
 induction a with
 | nil => intro l k _; simp [form]
 | cons r a ih =>
  intro l k h
  cases k with
  | zero => trivial
  | succ k => exact ⟨h.1, h.2.1, h.2.2.1, ih k h.2.2.2⟩
def GapP (A : List Rn) (f : Int) (n : Int) : Prop := 1 ≤ n ∧ n ≤ 1000000000 ∧ ¬ mem A n ∧ f ≤ n
end Go.Proofs.YtmbkmpeongodbaaGreat
namespace Go.Proofs.YtmbkmpeongodbaaGreat
open Go.RowKit
attribute [local go_sem ↓] ldR_eq stR_eq
attribute [local go_sem] zero_RC cells_RV RC_size fold_RC
theorem take_snoc (L : List Rn) (k : Nat) (h : k < L.length) : L.take (k + 1) = L.take k ++ [L.getD k rn0] := by
 rw [List.take_succ_eq_append_getElem h]; simp [List.getD, h]
set_option maxRecDepth 100000 in
set_option maxHeartbeats 4000000 in
theorem last_any (ao : Option Addr) (n cap : Nat) (A : List Rn) (w : World) (hS : RSrc w ao n cap A) :
  Calls Tryz.prog 118 #[.slice ao n cap] w fun e w' => ∃ k, e = .returned (.int .i64 k) ∧ Most A k ∧ Below w.heap.size w w' := by
 have HS := hide hS
 clear hS
 go_enter Tryz.func118, Tryz.ntmps118
 go_wp2_with fail
 refine (norm_any ao n cap A _ HS.out).mono ?_
 rintro e w1 ⟨a1, n1, c1, X, rfl, S1, b1, p1⟩
 have HS1 := hide S1
 have HP1 := hide p1
 have HB1 := hide b1
 have HL : Hid (X.length = n1) := S1.len
 have hn := S1.big
 clear S1 b1 p1
 go_wp2_with fail
 go_loopw [3, 9] (fun v i wr => ∃ (k : Nat) (z : Int), k ≤ n1 ∧ v = .int .i64 z ∧ i = .int .i64 k ∧ Hid (Most (X.take k) z ∧ Below w1.heap.size w1 wr)) (fun _ i _ => n1 - (intOf i).toNat)
 case atStart => exact ⟨0, 0, Nat.zero_le _, rfl, rfl, Most.start, Below.refl _ _⟩
 case round =>
  obtain ⟨k, z, hk, rfl, rfl, H⟩ := hrel
  rename World => w4
  by_cases hlt : k < n1
  ·obtain ⟨ad, rfl, A0⟩ := (HS1.out.below H.out.2).at k hlt
   have hld := run_ldR A0
   obtain ⟨r, Hr⟩ : ∃ r, Hid (X.getD k rn0 = r) := ⟨_, rfl⟩
   rw [Hr.out] at hld
   have HT := hide (take_snoc X k (by rw [HL.out]; exact hlt))
   rw [Hr.out] at HT
   have HM : Hid (Most (X.take (k + 1)) r.hi) := by
    have := form_take (k + 1) HP1.out.1
    rw [HT.out] at this
    rw [HT.out]; exact Most.last this
   obtain ⟨w5, hst, X5, B5, Z5⟩ := made w4 r w4.heap.size rfl
   have HB5 := hide (H.out.2.trans (B5.mono H.out.2.size))
   have k1 : w5.cell? ⟨w4.heap.size, 1, none⟩ = some (.int .i64 r.hi) := X5.at.c1
   clear A0 X5 B5 Z5
   go_wp2_with fail
   go_roundw
   case rel => exact ⟨k + 1, r.hi, by omega, rfl, by go_num, HM.out, HB5.out⟩
   case measure => simp [intOf]; omega
  ·obtain rfl : k = n1 := by omega
   have HF : Hid (Most A z) := by
    have := H.out.1
    rw [List.take_of_length_le (by rw [HL.out]; exact Nat.le_refl _)] at this
    exact this.congr HP1.out.2
   have HBF := hide (HB1.out.trans (H.out.2.mono HB1.out.size))
   go_wp2_with fail
   go_ret
   exact ⟨_, rfl, HF.out, HBF.out⟩
end Go.Proofs.YtmbkmpeongodbaaGreat
namespace Go.Proofs.YtmbkmpeongodbaaGreat
open Go.RowKit
attribute [local go_sem ↓] ldP_eq stP_eq ldA_eq stA_eq ixA_eq
attribute [local go_sem] zeros_SA cells_SAv zero_PC cells_PV fold_PC PC_size fold_PC1
def LastOf (P : Pst) (r : Int) (k : Int) : Prop := (V.isR r = true ∧ Most (runsAt P r.toNat) k) ∨ (V.isR r = false ∧ k = 0)
theorem LastOf.unique {P : Pst} {r k l : Int} (h : LastOf P r k) (h' : LastOf P r l) : k = l := by
 rcases h with ⟨h1, h2⟩ | ⟨h1, h2⟩ <;> rcases h' with ⟨g1, g2⟩ | ⟨g1, g2⟩
 ·exact h2.unique g2
 ·rw [h1] at g1; cases g1
 ·rw [h1] at g1; cases g1
 ·rw [h2, g2]
def GivesZ (w w' : World) (e : Ending) (P : Int → Prop) : Prop := ∃ k, e = .returned (.int .i64 k) ∧ P k ∧ Below w.heap.size w w'
set_option maxRecDepth 100000 in
theorem pastLast_any (a : Pv) (r : Int) (w : World) (hS : PSrc w a) : Calls Tryz.prog 82 #[PV a, .int .i64 r] w fun e w' => GivesZ w w' e (LastOf a.P r) := by
 have b1 := below_new w (.cells (PC a) 26)
 have HX := hide (pbox_new w a)
 have HBK := hide b1
 have HS := hide (hS.below b1)
 have l0 := run_ldP HX.out.at
 clear hS b1
 obtain ⟨wk, hwk⟩ : ∃ wk, w.alloc (.cells (PC a) 26) = wk := ⟨_, rfl⟩
 rw [hwk] at HBK HX HS l0
 obtain ⟨x, Hx⟩ : ∃ x, Hid (V.isR r = x) := ⟨_, rfl⟩
 cases x with
 | false =>
  have HF : Hid (LastOf a.P r 0) := Or.inr ⟨Hx.out, rfl⟩
  go_enter Tryz.func82, Tryz.ntmps82
  go_wp2_with (go_at_call 79; refine (isRepP_any r _).mono ?_; rintro e w' ⟨rfl, rfl⟩; rw [Hx.out])
  go_ret
  exact ⟨0, rfl, HF.out, HBK.out⟩
 | true =>
  have hr : 0 ≤ r ∧ r < 16 := by have := Hx.out; simp [V.isR] at this; exact this
  obtain ⟨k, rfl⟩ : ∃ k : Nat, r = k := ⟨r.toNat, by omega⟩
  have hk : k < 16 := by omega
  have b2 := below_new wk (.cells (PC a) 26)
  have HR := hide (prow_one wk a HS.out)
  have HWT := hide (wt_one HS.out)
  have HB2 := hide (HBK.out.trans (b2.mono HBK.out.size))
  clear b2
  go_enter Tryz.func82, Tryz.ntmps82
  go_wp2_with (go_at_call 79; refine (isRepP_any _ _).mono ?_; rintro e w' ⟨rfl, rfl⟩; rw [Hx.out])
  clear hwk
  refine (setsOf_any _ 1 1 [a] _ HR.out HWT.out (by omega)).mono ?_
  rintro e w2 ⟨F, rfl, R2, b3⟩
  have HR2 := hide R2
  have HB3 := hide (HB2.out.trans (b3.mono HB2.out.size))
  have hix : (ixA (SAv F) (.int .i64 (k : Int))).run Tryz.prog w2 = _ := run_idxA F k hk w2
  clear R2 b3 l0
  go_wp2_with fail
  refine (last_any _ _ _ _ _ (HR2.out.src k hk)).mono ?_
  rintro e w3 ⟨z, rfl, hz, b4⟩
  have HZ : Hid (LastOf a.P k z) := by
   left
   refine ⟨Hx.out, ?_⟩
   rw [Int.toNat_natCast, ← runsOf_one a k, ← HR2.out.eq k hk]
   exact hz
  have HB4 := hide (HB3.out.trans (b4.mono HB3.out.size))
  clear hz b4 hix
  go_wp2_with fail
  go_ret
  exact ⟨z, rfl, HZ.out, HB4.out⟩
end Go.Proofs.YtmbkmpeongodbaaGreat
namespace Go.Proofs.YtmbkmpeongodbaaGreat
open Go.RowKit
attribute [local go_sem ↓] ldP_eq stP_eq ldFa_eq stFa_eq ldD_eq stD_eq
attribute [local go_sem] cells_PV PC_size cells_FaV FaC_size cells_RV RC_size zero_RC fold_RC
structure Fc where
 ao : Option Addr
 an : Nat
 ac : Nat
 es : List K.En
 p : Pv
 ro : Option Addr
 rn : Nat
 rc : Nat
 rs : List Rc
def mkF (f : Fc) : FacV := ⟨f.ao, f.an, f.ac, f.p.vo, f.p.vn, f.p.vc, f.p.co, f.p.cn, f.p.cc, f.ro, f.rn, f.rc⟩
structure FcOk (w : World) (f : Fc) : Prop where
 es : K.ESrc w f.ao f.an f.ac f.es
 p : PSrc w f.p
 rs : RcS w f.ro f.rn f.rc f.rs
theorem FcOk.below {w w' : World} {f : Fc} (h : FcOk w f) (hb : Below w.heap.size w w') : FcOk w' f := ⟨h.es.below hb, h.p.below hb, h.rs.below hb⟩
theorem FaBox.cs {w : World} {g : Nat} {f : Fc} (h : FaBox w g (mkF f)) : w.cell? ⟨g, 0, none⟩ = some (.slice f.ao f.an f.ac) ∧ w.cell? ⟨g, 3, none⟩ = some (.slice f.ro f.rn f.rc) := ⟨h.c0, h.c3⟩
theorem FaBox.past {w : World} {g : Nat} {f : Fc} (h : FaBox w g (mkF f)) : PAt w ⟨g, 1, none⟩ f.p := ⟨h.c1, h.c2⟩
def FormF (f : Fc) : Prop := K.okN f.es f.an = true ∧ InForm f.p.P ∧ OkR f.rs f.rn
def OneA (f : Fc) : Prop := (f.an = 0 ∧ f.rn = 0) ∨ (f.an = 1 ∧ f.rn = 0 ∧ ∃ k, LastOf f.p.P (f.es.getD 0 K.en0).rep k ∧ k < (f.es.getD 0 K.en0).num) ∨ (f.an = 0 ∧ f.rn = 1 ∧ EmptyP f.p.P)
def EvOf (f : Fc) (x : Int) : Prop := (¬ FormF f ∧ x = 1) ∨ (FormF f ∧ ¬ OneA f ∧ x = 2) ∨ (FormF f ∧ OneA f ∧ x = 0)
theorem EvOf.unique {f : Fc} {x y : Int} (h : EvOf f x) (h' : EvOf f y) : x = y := by
 rcases h with ⟨h1, rfl⟩ | ⟨h1, h2, rfl⟩ | ⟨h1, h2, rfl⟩ <;> rcases h' with ⟨g1, rfl⟩ | ⟨g1, g2, rfl⟩ | ⟨g1, g2, rfl⟩ <;> first | rfl | exact absurd h1 g1 | exact absurd g1 h1 | exact absurd h2 g2 | exact absurd g2 h2
def NoneF (f : Fc) : Prop := f.an = 0 ∧ f.rn = 0 ∧ EmptyP f.p.P
end Go.Proofs.YtmbkmpeongodbaaGreat
namespace Go.Proofs.YtmbkmpeongodbaaGreat
open Go.RowKit
def EfK (L : List K.En) (f : Fc) (x : K.En) : Prop := (x ∈ L ∧ inB f.p.P x = false ∧ freeB f.rs x = true) ∨ x ∈ f.es
def EfC (L : List K.En) (f : Fc) : Prop := ∃ a ∈ f.es, ∃ y ∈ L, K.sameDot y a = true
def EfD (L : List K.En) (f : Fc) (Z : List K.En) (er : Int) : Prop := (¬ K.chk L = 0 ∧ Z = [] ∧ er = 1) ∨ (K.chk L = 0 ∧ EvOf f er ∧ er ≠ 0 ∧ Z = []) ∨ (K.chk L = 0 ∧ EvOf f 0 ∧ EfC L f ∧ Z = [] ∧ er = 10) ∨ (K.chk L = 0 ∧ EvOf f 0 ∧ ¬ EfC L f ∧ er = 0 ∧ K.Asc Z ∧ ∀ x, x ∈ Z ↔ EfK L f x)
def EfA (w w' : World) (x : Ending) (L : List K.En) (f : Fc) : Prop := ∃ a n c Z er, x = .returned (.tuple #[.slice a n c, .int .i64 er]) ∧ K.ESrc w' a n c Z ∧ Below w.heap.size w w' ∧ EfD L f Z er
theorem ev_form {f : Fc} (h : EvOf f 0) : FormF f ∧ OneA f := by
 rcases h with ⟨-, h⟩ | ⟨-, -, h⟩ | ⟨h1, h2, -⟩
 ·exact absurd h (by decide)
 ·exact absurd h (by decide)
 ·exact ⟨h1, h2⟩
theorem one_le {f : Fc} (h : OneA f) : f.an ≤ 1 ∧ f.rn ≤ 1 := by
 rcases h with ⟨h1, h2⟩ | ⟨h1, h2, -⟩ | ⟨h1, h2, -⟩ <;> omega
theorem chk_of {L : List K.En} {n : Nat} (hl : L.length = n) (h : K.okN L n = true) : K.chk L = 0 := (ok_chk hl).2 h
theorem filter_chkE {L : List K.En} {p : K.En → Bool} (h : K.chk L = 0) : K.chk (L.filter p) = 0 :=
 K.chk_asc ((K.chk_asc' h).filter p) (fun e he => chk_ce h e (List.mem_filter.1 he).1)
theorem eff_union {L U : List K.En} {f : Fc} {er : Int} (hL : K.chk L = 0) (hf : K.chk f.es = 0) (hC : ¬ EfC L f) (h : K.UnionOf ((L.filter (pkB f.p.P false)).filter (freeB f.rs)) f.es U er) : er = 0 ∧ K.Asc U ∧ ∀ x, x ∈ U ↔ EfK L f x := by
 have hm : ∀ x, x ∈ (L.filter (pkB f.p.P false)).filter (freeB f.rs) ↔ x ∈ L ∧ inB f.p.P x = false ∧ freeB f.rs x = true := fun x => by
  rw [List.mem_filter, List.mem_filter]
  have : pkB f.p.P false x = true ↔ inB f.p.P x = false := by unfold pkB; cases inB f.p.P x <;> decide
  rw [this, and_assoc]
 have hAs := K.chk_asc' (filter_chkE (p := freeB f.rs) (filter_chkE (p := pkB f.p.P false) hL))
 have hAf := K.chk_asc' hf
 rcases h with ⟨hno, -⟩ | ⟨-, ⟨hcl, -, -⟩ | ⟨-, h0, h1, h2⟩⟩
 ·exact absurd ⟨filter_chkE (filter_chkE hL), hf⟩ hno
 ·exfalso
  obtain ⟨x, hx, y, hy, hs, hne⟩ := hcl
  rcases List.mem_append.1 hx with hx | hx <;> rcases List.mem_append.1 hy with hy | hy
  ·exact K.asc_noclash hAs (fun _ => Iff.rfl) ⟨x, hx, y, hy, hs, hne⟩
  ·exact hC ⟨y, hy, x, ((hm x).1 hx).1, hs⟩
  ·exact hC ⟨x, hx, y, ((hm y).1 hy).1, by rw [K.same_symm]; exact hs⟩
  ·exact K.asc_noclash hAf (fun _ => Iff.rfl) ⟨x, hx, y, hy, hs, hne⟩
 ·refine ⟨h0, h1, fun x => ?_⟩
  rw [h2 x, List.mem_append, hm x]
  rfl
end Go.Proofs.YtmbkmpeongodbaaGreat
namespace Go.Proofs.YtmbkmpeongodbaaGreat
open Go.RowKit
attribute [local go_sem ↓] ldP_eq stP_eq ldJ_eq stJ_eq
attribute [local go_sem] zeros_JA cells_JAv zero_PC cells_PV fold_PC PC_size fold_PC1
end Go.Proofs.YtmbkmpeongodbaaGreat

