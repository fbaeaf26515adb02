/- LRis LSor LSo2 LShg LCct LUp LUn TFg TJn BCn BAo Lit BKe PLp BFp -/
import Derived.Test.YtalpnhfoaohhhaaGreatTj29
import Derived.Shelf.SlSortCmp.NoneTotal
import Derived.Lib.SliceRun
import Derived.Shelf.Spec.SlicesGrow
import Derived.Test.YtalpnhfoaohhhaaGreatProg
import Derived.Laws.AppendOwnNone
import Derived.Deep.LoopGhost
import Derived.Test.YtalpnhfoaohhhaaGreatTj16
import Derived.Test.YtalpnhfoaohhhaaGreatTj18
import Derived.Test.YtalpnhfoaohhhaaGreatTj27
import Derived.Test.YtalpnhfoaohhhaaGreatTj21
import Derived.Deep.CutRange
import Derived.Test.YtalpnhfoaohhhaaGreatTj06
import Derived.Test.YtalpnhfoaohhhaaGreatTj20
import Derived.Test.YtalpnhfoaohhhaaGreatTj19
import Derived.Shelf.SlIter.Nil
import Derived.Shelf.SortM.Plain
import Derived.Shelf.SortM.SortNone
import Derived.Test.YtalpnhfoaohhhaaGreatTj09
import Derived.Test.YtalpnhfoaohhhaaGreatTj14
import Derived.Test.YtalpnhfoaohhhaaGreatTj05
set_option maxRecDepth 100000
set_option maxHeartbeats 4000000
namespace Go.Proofs.YtalpnhfoaohhhaaGreat.K
section
open Go.RowKit Go.Lib
attribute [local go_sem ↓] ld28_eq st28_eq ld26_eq run_eqD
attribute [local go_sem] zero_EC cells_EV EC_size
def GivesTB (B : Nat) (w w' : World) (e : Ending) (L : List En) : Prop := ∃ ao n c R er, e = .returned (.tuple #[.slice ao n c, .int .i64 er]) /\ ESrc w' ao n c R /\ Below B w w' /\ (∀ ad, ao = some ad -> B <= ad.block) /\ Settled L R er
theorem settled_nil : Settled [] [] 0 := Or.inr ⟨(fun ⟨_, h, _⟩ => by cases h), rfl, List.Pairwise.nil, fun _ => Iff.rfl⟩
theorem sort0 (ao : Option Addr) (cap : Nat) (w : World) : Calls Tryz.prog 99 #[.slice ao 0 cap, .func (.func 80) #[] #[]] w fun e w' => e = .returned (.tuple #[]) /\ w' = w := AnyF.slices_SortFunc_none Tryz.sortEn ao cap _ w
theorem compact0 (ao : Option Addr) (cap : Nat) (w : World) : Calls Tryz.prog 100 #[.slice ao 0 cap] w fun e w' => e = .returned (.slice ao 0 cap) /\ w' = w := by
 go_enter Tryz.func100, Tryz.ntmps100
 go_wp2_with fail
 go_ret
 exact ⟨rfl, rfl⟩
theorem rising0 (ao : Option Addr) (cap : Nat) (w : World) : Calls Tryz.prog 65 #[.slice ao 0 cap] w fun e w' => e = .returned (.tuple #[.slice ao 0 cap, .int .i64 0]) /\ Below w.heap.size w w' := by
 have HB : Hid (Below w.heap.size w w) := Below.refl _ _
 go_enter Tryz.func65, Tryz.ntmps65
 go_wp2_with fail
 refine (sort0 ao cap _).mono ?_
 rintro e w1 ⟨rfl, rfl⟩
 go_wp2_with fail
 refine (compact0 ao cap _).mono ?_
 rintro e w2 ⟨rfl, rfl⟩
 go_wp2_with fail
 go_loopw [4, 11] (fun _ i wr => i = .int .i64 0 /\ wr = w2) (fun _ _ _ => 0)
 case atStart => exact ⟨rfl, rfl⟩
 case round =>
  obtain ⟨rfl, rfl⟩ := hrel
  go_wp2_with fail
  go_ret2
  exact ⟨rfl, HB.out⟩
theorem MR.esrc {W : World} {ad : Addr} {d : Array En} (M : MR W ad d) (k c : Nat) (hk : k <= d.size) (C : List En) (hC : d.toList.take k = C) (hs : ∀ e ∈ C, e.sku.size <= maxLen) (hm : k <= 3518437208883) : ESrc W (some ad) k c C := by
 subst hC
 refine ⟨by rw [List.length_take, Array.length_toList]; omega, fun h => (by cases h), fun ad' h t ht => ?_, hs, hm⟩
 obtain rfl := Option.some.inj h
 have e : (d.toList.take k).getD t en0 = d[t]! := by
  rw [List.getD, List.getElem?_take, if_pos ht, Array.getElem?_toList, Array.getElem?_eq_getElem (by omega), getElem!_pos d t (by omega)]
  rfl
 rw [e]
 exact M.at t (by omega)
theorem rising_any (ad : Addr) (cap n : Nat) (d : Array En) (w : World) (M : MR w ad d) (hn : d.size = n) (hb : n <= 3518437208883) (hcap : n <= cap) (hcm : cap <= 9223372036854775807) (hsk : ∀ e ∈ d.toList, e.sku.size <= maxLen) :
  Calls Tryz.prog 65 #[.slice (some ad) n cap] w fun e w' => GivesTB ad.block w w' e d.toList := by
 have HM := hide M
 have HN := hide hn
 have HSK := hide hsk
 have HC := hide hcap
 have HCM := hide hcm
 clear M hn hsk hcap hcm
 go_enter Tryz.func65, Tryz.ntmps65
 go_wp2_with fail
 refine (sortFunc_any ad cap n d _ HM.out HN.out hb).mono ?_
 rintro e w1 ⟨rfl, d1, hp, hs, M1, b1⟩
 have HP := hide hp
 have HS := hide hs
 have HM1 := hide M1
 have HB1 := hide b1
 clear hp hs M1 b1
 have HN1 : Hid (d1.size = n) := by have := HP.out.length_eq; rw [Array.length_toList, Array.length_toList, HN.out] at this; exact this
 go_wp2_with fail
 refine (compact_any ad cap n d1 _ HM1.out HN1.out hb HC.out HCM.out).mono ?_
 rintro e w2 ⟨k, d2, rfl, M2, hk, hs2, ht, b2⟩
 obtain ⟨C, hCt⟩ : ∃ C, d2.toList.take k = C := ⟨_, rfl⟩
 have HCT := hide hCt
 have HCC : Hid (C = compactUpTo d1 d1.size) := hCt.symm.trans ht
 have HM2 := hide M2
 have HB2 : Hid (Below ad.block w w2) := HB1.out.trans b2
 have HK : Hid (k <= d2.size) := by show _ <= _; rw [hs2]; exact hk
 have hkn : k <= n := by have := HN1.out; omega
 have HLC : Hid (C.length = k) := by show _ = _; rw [<- hCt, List.length_take, Array.length_toList]; have := HK.out; omega
 have HSC : Hid (∀ e ∈ C, e.sku.size <= maxLen) := fun e he => by
  rw [HCC.out] at he
  exact HSK.out e (HP.out.mem_iff.1 ((cmp_iff d1 e).1 he))
 have HPM : Hid (∀ x, x ∈ d1.toList ↔ x ∈ d.toList) := fun x => HP.out.mem_iff
 clear hCt ht M2 b2 hs2 hk HB1 HM1
 go_wp2_with fail
 go_loopw [4, 11] (fun _ i wr => ∃ k0 : Nat, k0 <= k /\ i = .int .i64 k0 /\ Hid (AdjN C k0 /\ Below w2.heap.size w2 wr)) (fun _ i _ => k - (intOf i).toNat)
 case atStart => exact ⟨0, Nat.zero_le _, rfl, fun i hi => by omega, Below.refl _ _⟩
 case round =>
  obtain ⟨k0, hk0, rfl, H⟩ := hrel
  rename World => w4
  have HLT : Hid (ad.block <= w2.heap.size) := Nat.le_of_lt HM2.out.lt
  have HM4 := hide (HM2.out.on H.out.2)
  by_cases hlt : k0 < k
  ·by_cases h0 : k0 = 0
   ·subst h0
    go_wp2_with fail
    refine wp_region_quiet_below (by kernel_rfl) (by kernel_rfl) ?_
    repeat (with_reducible (refine wpQuiet_step ?_); intro K hK; go_simp; (try rw [if_neg (by unfold undef; simp)]); first | (with_reducible (refine hK _ ?_); clear hK K) | (apply Exists.intro; refine ⟨fun _ => ?_, hK _ ?_⟩; (fail); clear hK K))
    with_reducible (refine wpQuiet_nil ?_)
    intro w5 hw'
    obtain ⟨⟨dq, osq⟩, hw''⟩ := hw'
    have b5 : Below w4.heap.size w4 w5 := by rw [hw'']; exact below_regrown w4 dq osq
    clear hw'' dq osq
    have H5 : Hid (AdjN C (0 + 1) /\ Below w2.heap.size w2 w5) := ⟨fun i hi => by omega, H.out.2.trans (b5.mono H.out.2.size)⟩
    clear b5
    go_wp2_with fail
    go_roundw
    case rel => exact ⟨0 + 1, by omega, by go_num, H5⟩
    case measure => simp [intOf]; omega
   ·obtain ⟨j, hj⟩ : ∃ j, k0 - 1 = j := ⟨_, rfl⟩
    have hz : IntKind.i64.wrap ((k0 : Int) - 1) = (j : Int) := by rw [IntKind.wrap_i64]; omega
    have hjn : j < k := by omega
    have hd0 : decide ((0 : Int) < (k0 : Int)) = true := decide_eq_true (by omega)
    have hpos : 0 < k0 := by omega
    have Hj : Hid (k0 = j + 1) := by show _ = _; omega
    have S4 := HM4.out.esrc k cap HK.out C HCT.out HSC.out (by omega)
    have A0 := hide (S4.2.2.1 ad rfl k0 hlt)
    have A1 := hide (S4.2.2.1 ad rfl j hjn)
    obtain ⟨x, Hx⟩ : ∃ x, Hid (C.getD k0 en0 = x) := ⟨_, rfl⟩
    obtain ⟨y, Hy⟩ : ∃ y, Hid (C.getD j en0 = y) := ⟨_, rfl⟩
    rw [Hx.out] at A0
    rw [Hy.out] at A1
    clear S4 hj h0
    have l0 : ∀ d os, (ld26 (.pointer (some (ad.add (k0 * 4))))).run Tryz.prog (Sort.grow (redrawn w4 d) os) = .ok (.agg (DC x)) (Sort.grow (redrawn w4 d) os) := fun d os => run_ld26 (A0.out.on (below_regrown w4 d os))
    have l1 : ∀ d os, (ld26 (.pointer (some (ad.add (j * 4))))).run Tryz.prog (Sort.grow (redrawn w4 d) os) = .ok (.agg (DC y)) (Sort.grow (redrawn w4 d) os) := fun d os => run_ld26 (A1.out.on (below_regrown w4 d os))
    obtain ⟨q, hq⟩ : ∃ q, sameDot y x = q := ⟨_, rfl⟩
    cases q with
    | false =>
     have HQ := hide hq
     go_wp2_with fail
     refine wp_region_quiet_below (by kernel_rfl) (by kernel_rfl) ?_
     repeat (with_reducible (refine wpQuiet_step ?_); intro K hK; go_simp; (try rw [if_neg (by unfold undef; simp)]); first | (with_reducible (refine hK _ ?_); clear hK K) | (apply Exists.intro; refine ⟨fun _ => ?_, hK _ ?_⟩; (fail); clear hK K))
     with_reducible (refine wpQuiet_nil ?_)
     intro w5 hw'
     obtain ⟨⟨dq, osq⟩, hw''⟩ := hw'
     have b5 : Below w4.heap.size w4 w5 := by rw [hw'']; exact below_regrown w4 dq osq
     clear hw'' dq osq
     have H5 : Hid (AdjN C (k0 + 1) /\ Below w2.heap.size w2 w5) := ⟨fun i hi => by
      by_cases e : i = j
      ·subst e; rw [<- Hj.out, Hx.out, Hy.out, same_symm]; exact HQ.out
      ·exact H.out.1 i (by have := Hj.out; omega), H.out.2.trans (b5.mono H.out.2.size)⟩
     clear b5 l0 l1
     go_wp2_with fail
     go_roundw
     case rel => exact ⟨k0 + 1, by omega, by go_num, H5⟩
     case measure => simp [intOf]; omega
    | true =>
     have HF : Hid (Settled d.toList [] 10) := (settled_clash HCC.out j (by rw [HLC.out]; have := Hj.out; omega) (by rw [<- Hj.out, Hx.out, Hy.out]; exact hq)).perm HPM.out
     go_wp2_with fail
     refine wp_region_quiet_below (by kernel_rfl) (by kernel_rfl) ?_
     repeat (with_reducible (refine wpQuiet_step ?_); intro K hK; go_simp; (try rw [if_neg (by unfold undef; simp)]); first | (with_reducible (refine hK _ ?_); clear hK K) | (apply Exists.intro; refine ⟨fun _ => ?_, hK _ ?_⟩; (fail); clear hK K))
     with_reducible (refine wpQuiet_nil ?_)
     intro w5 hw'
     obtain ⟨⟨dq, osq⟩, hw''⟩ := hw'
     have b5 : Below w4.heap.size w4 w5 := by rw [hw'']; exact below_regrown w4 dq osq
     clear hw'' dq osq
     have HB5 : Hid (Below ad.block w w5) := HB2.out.trans ((H.out.2.trans (b5.mono H.out.2.size)).mono HLT.out)
     clear b5 l0 l1
     go_wp2_with fail
     go_ret2
     exact ⟨none, 0, 0, [], 10, rfl, ESrc.none _, HB5.out, fun ad h => (by cases h), HF.out⟩
  ·obtain rfl : k0 = k := by omega
   have HF : Hid (Settled d.toList C 0) := (settled_done HCC.out HS.out (by rw [HLC.out]; exact H.out.1)).perm HPM.out
   have HE := hide (HM4.out.esrc k0 cap HK.out C HCT.out HSC.out (by omega))
   have HB5 : Hid (Below ad.block w w4) := HB2.out.trans (H.out.2.mono HLT.out)
   go_wp2_with fail
   go_ret2
   exact ⟨some ad, k0, cap, C, 0, rfl, HE.out, HB5.out, fun ad' h => by obtain rfl := Option.some.inj h; exact Nat.le_refl _, HF.out⟩
end
section
open Go.RowKit Go.Lib
attribute [local go_sem ↓] ld28_eq st28_eq
attribute [local go_sem] zero_EC cells_EV EC_size
def firstE : List En -> Int
 | [] => 0
 | e :: r => if ceE e = 0 then firstE r else ceE e
def okTo (L : List En) (k : Nat) : Prop := ∀ i, i < k -> ceE (L.getD i en0) = 0
def Sorted (L R : List En) (er : Int) : Prop := (firstE L ≠ 0 /\ R = [] /\ er = firstE L) ∨ (firstE L = 0 /\ Settled L R er)
def GivesQ (w w' : World) (e : Ending) (L : List En) : Prop := ∃ ao n c R er, e = .returned (.tuple #[.slice ao n c, .int .i64 er]) /\ ESrc w' ao n c R /\ Below w.heap.size w w' /\ (∀ ad, ao = some ad -> w.heap.size <= ad.block) /\ Sorted L R er
theorem ESrc.cells {w : World} {ad : Addr} {n cap : Nat} {L : List En} (hS : ESrc w (some ad) n cap L) (j : Nat) (u : Value) (hj : (ecs L)[j]? = some u) : w.cell? (ad.add j) = some u := by
 have hjl : j < L.length * 4 := by have := (List.getElem?_eq_some_iff.1 hj).1; rwa [ecs_length] at this
 have e4 := ecs_at L (j / 4) (j % 4) (by omega) (by omega)
 rw [show j / 4 * 4 + j % 4 = j by omega, hj] at e4
 have A := hS.2.2.1 ad rfl (j / 4) (by rw [<- hS.1]; omega)
 have : j % 4 = 0 ∨ j % 4 = 1 ∨ j % 4 = 2 ∨ j % 4 = 3 := by omega
 rcases this with h | h | h | h
 ·rw [h] at e4; rw [show j = j / 4 * 4 by omega, A.c0]; exact e4.symm
 ·rw [h] at e4; have := A.c1; rw [add_add] at this; rw [show j = j / 4 * 4 + 1 by omega, this]; exact e4.symm
 ·rw [h] at e4; have := A.c2; rw [add_add] at this; rw [show j = j / 4 * 4 + 2 by omega, this]; exact e4.symm
 ·rw [h] at e4; have := A.c3; rw [add_add] at this; rw [show j = j / 4 * 4 + 3 by omega, this]; exact e4.symm
theorem ecs_onecell (L : List En) : ∀ u ∈ ecs L, u.oneCell' = true := by
 intro u hu
 obtain ⟨l, hl, hv⟩ := List.mem_flatten.1 hu
 obtain ⟨e, _, rfl⟩ := List.mem_map.1 hl
 exact EC_one e u hv
theorem clone_any (ad : Addr) (n cap : Nat) (L : List En) (w : World) (hS : ESrc w (some ad) n cap L) :
  Calls Tryz.prog 92 #[.slice (some ad) n cap] w fun e w' => ∃ ao c, e = .returned (.slice ao n c) /\ OwnE w.heap.size w.heap.size w w' ao c L := by
 obtain ⟨i0, hi, hz0, hz1, hz2⟩ := info_parts info28
 have q22 : ∀ w, (binOp .eql 22 (.slice (some ad) n cap) (.slice none 0 0)).run Tryz.prog w = .ok (.bool false) w := fun w => Lib.run_eql_slice_nil w _ _ (some ad) n cap 0 0 Tryz.underlying22
 have HS := hide hS
 clear hS
 go_enter Tryz.func92, Tryz.ntmps92
 go_wp2_with (at_builtin; refine wpList_append_own _ rfl _ _ 22 rfl w.heap.size 36 i0 (.agg #[.int .i64 0, .int .i64 0, .string ⟨#[]⟩, .int .i64 0]) 4 40 Tryz.underlying22 hi hz0 hz1 hz2 rfl (by decide) _ _ _ rfl (World.ownsRow_made w #[] 0 (Nat.le_refl _) (Nat.zero_le _) (by simp)) ad n cap (ecs L) rfl ?qc1 ?qc2 ?qc3 ?qc4 ?qc5 ?qc6 ?_)
 case qc1 => rw [ecs_length, HS.out.1]
 case qc2 =>
  intro j u hj
  have := HS.out.cells j u hj
  rw [(below_new w _).cell (World.block_lt_of_cell? _ _ this)]
  exact this
 case qc3 => exact ecs_onecell L
 case qc4 => rw [Nat.zero_add]; unfold maxLen; have := HS.out.2.2.2.2; omega
 case qc5 => rw [Nat.zero_add]; have := HS.out.2.2.2.2; omega
 case qc6 => simp
 intro v' w1 hown hgrow hnil
 have hown' : w1.ownsRow w.heap.size 36 4 v' n (ecs L) := by simpa using hown
 have hb : Below w.heap.size w w1 := ((Below.refl _ w).alloc (Nat.le_refl _) _).grown hgrow (by simp) (by intro k hk; simp [Value.ownBlock] at hk; omega)
 have HF : Hid (∃ ao c, v' = .slice ao n c /\ OwnE w.heap.size w.heap.size w w1 ao c L) := by
  rcases hown'.2 with ⟨h0, _⟩ | ⟨g, c, cur, rfl, r⟩
  ·exact absurd h0 hnil
  ·exact ⟨some ⟨g, 0, none⟩, c, rfl, by rw [HS.out.1]; exact hown', hb, hb.size, Nat.le_refl _⟩
 clear hown hown' hgrow hnil hb
 go_wp2_with fail
 go_ret
 obtain ⟨ao, c, rfl, h⟩ := HF.out
 exact ⟨ao, c, rfl, h⟩
theorem clone_nil (w : World) : Calls Tryz.prog 92 #[.slice none 0 0] w fun e w' => e = .returned (.slice none 0 0) /\ w' = w := by
 have q22 : ∀ w, (binOp .eql 22 (.slice none 0 0) (.slice none 0 0)).run Tryz.prog w = .ok (.bool true) w := fun w => Lib.run_eql_slice_nil w _ _ none 0 0 0 0 Tryz.underlying22
 go_enter Tryz.func92, Tryz.ntmps92
 go_wp2_with fail
 go_ret
 exact ⟨rfl, rfl⟩
theorem OwnE.mr {B0 B : Nat} {w w' : World} {ad : Addr} {cap : Nat} {acc : List En} (O : OwnE B0 B w w' (some ad) cap acc) : MR w' ad acc.toArray /\ acc.length <= cap /\ cap <= 9223372036854775807 /\ B <= ad.block := by
 rcases O.own.2 with ⟨h0, _⟩ | ⟨g, c, cur, hv, hbg, hgg, hnc, hcm, hcsz, htake⟩
 ·cases h0
 ·simp only [Value.slice.injEq, Option.some.injEq, true_and] at hv
  obtain ⟨rfl, rfl⟩ := hv
  refine ⟨⟨fun j hj => ?_, (Array.getElem?_eq_some_iff.1 hgg).1, rfl⟩, hnc, by unfold maxLen at hcm; omega, hbg⟩
  rw [Sort.size_flatK] at hj
  have hj' : j < acc.length * 4 := by simpa using hj
  refine ⟨?_, by simp [World.frozen?, hgg]⟩
  rw [Nat.zero_add, O.own.cellAt j (by omega), Sort.get_flatK _ _ _ _ hj]
  have e4 := ecs_at acc (j / 4) (j % 4) (by omega) (by omega)
  rw [show j / 4 * 4 + j % 4 = j by omega] at e4
  rw [e4]
  have e5 : acc.toArray[j / 4]! = acc.getD (j / 4) en0 := by
   rw [getElem!_pos acc.toArray (j / 4) (by simp; omega)]; simp [List.getD, show j / 4 < acc.length by omega]
  rw [e5]
  have : j % 4 = 0 ∨ j % 4 = 1 ∨ j % 4 = 2 ∨ j % 4 = 3 := by omega
  rcases this with h | h | h | h <;> rw [h] <;> rfl
end
section
open Go.RowKit Go.Lib
attribute [local go_sem ↓] ld28_eq st28_eq
attribute [local go_sem] zero_EC cells_EV EC_size
end
end Go.Proofs.YtalpnhfoaohhhaaGreat.K
namespace Go.Proofs
open Go.Shelf
def Tryz.growEn_ren : Go.Shelf.Ren := ⟨fun | 4 => 101 | n => n, fun | 22 => 22 | 25 => 36 | 3 => 3 | 4 => 4 | 9 => 9 | 20 => 20 | 0 => 0 | n => n, fun | n => n⟩
theorem Tryz.growEn : Go.Proofs.Lays8.n4 Tryz.prog Tryz.growEn_ren := {
 mixed := by kernel_rfl
 f4 := ⟨Tryz.f101.name, by decide, Tryz.func101.trans (congrArg some (by kernel_rfl))⟩
 t0 := Tryz.underlying0
 a0 := Tryz.isAgg0
 z0 := Tryz.sizeOf0
 v0 := Tryz.zeroValue0
 t3 := Tryz.underlying3
 a3 := Tryz.isAgg3
 z3 := Tryz.sizeOf3
 v3 := Tryz.zeroValue3
 t4 := Tryz.underlying4
 a4 := Tryz.isAgg4
 z4 := Tryz.sizeOf4
 v4 := Tryz.zeroValue4
 t9 := Tryz.underlying9
 a9 := Tryz.isAgg9
 z9 := Tryz.sizeOf9
 v9 := Tryz.zeroValue9
 t20 := Tryz.underlying20
 a20 := Tryz.isAgg20
 z20 := Tryz.sizeOf20
 v20 := Tryz.zeroValue20
 t22 := Tryz.underlying22
 a22 := Tryz.isAgg22
 z22 := Tryz.sizeOf22
 v22 := Tryz.zeroValue22 }
end Go.Proofs
namespace Go.Proofs.YtalpnhfoaohhhaaGreat.K
section
open Go.RowKit Go.Lib

theorem zc_size (n : Nat) : (Builtin.zeroCells (EC en0) n).size = n * 4 := by simp [Builtin.zeroCells, EC_size]
theorem below_drew1 (w : World) : Below w.heap.size w w.drew := ⟨rfl, rfl, rfl, Nat.le_refl _, fun _ _ => rfl⟩
theorem grow_nil (n : Nat) (w : World) (hn : n <= 3518437208883) : Calls Tryz.prog 101 #[.slice none 0 0, .int .i64 n] w fun e w' => ∃ ao c, e = .returned (.slice ao 0 c) /\ OwnE w.heap.size w.heap.size w w' ao c [] := by
 by_cases h0 : n = 0
 ·subst h0
  refine Calls.mono (Any8.slices_Grow_room Tryz.growEn none 0 0 0 w (Nat.le_refl _) (by omega) (by omega) (Nat.le_refl _)) ?_
  rintro e w' ⟨rfl, rfl⟩
  exact ⟨none, 0, rfl, OwnE.nil (Below.refl _ _) (Nat.le_refl _) (Nat.le_refl _)⟩
 ·obtain ⟨i0, hi, hz0, hz1, hz2⟩ := info_parts info28
  have h := Any8.slices_Grow_grow Tryz.growEn i0 _ hi hz0 (by rw [hz1]; omega) none 0 0 n [] w (Nat.le_refl _) (by omega) (by rw [hz2]; omega) (by omega) (by simp) (fun _ => rfl) (fun a ha => by cases ha)
  rw [show Tryz.growEn_ren.t 25 = 36 from rfl] at h
  refine Calls.mono h ?_
  rintro e w' ⟨rfl, rfl⟩
  have hge := grownCap_ge w (0 + n) 0 36
  have hle := grownCap_le_maxLen w (0 + n) 0 36 (by unfold maxLen; omega)
  refine ⟨some ⟨w.heap.size, 0, none⟩, grownCap w (0 + n) 0 36, rfl, ⟨rfl, Or.inr ⟨w.heap.size, grownCap w (0 + n) 0 36, _, rfl, Nat.le_refl _, heap_alloc_new w.drew _, Nat.zero_le _, hle, ?_, by simp [ecs]⟩⟩, (below_drew1 w).trans ((below_new w.drew _).mono (Nat.le_refl _)), by simp, Nat.le_refl _⟩
  have hc : (Value.agg #[.int .i64 0, .int .i64 0, .string ⟨#[]⟩, .int .i64 0]).cells = EC en0 := by simp [Value.cells]; rfl
  rw [hc]
  simp only [Array.size_append, zc_size]
  rw [Nat.zero_add] at hge ⊢
  simp
  omega
theorem OwnE.appendAll {B0 B : Nat} {w w' : World} {ao : Option Addr} {cap : Nat} {acc : List En} (O : OwnE B0 B w w' ao cap acc) (bo : Option Addr) (m c : Nat) (R : List En) (hR : ESrc w' bo m c R) (hlen : acc.length + m <= 3518437208883)
  {ops : Array Oper} {rest : List Oper} {o : Oper} {a : Act} {Q : Exit -> Act -> World -> Prop} (hgd : o.guard = none) (s x : Operand) (ho : o.op = .call { callee := .builtin .append, args := #[s, x], argTypes := #[22, 22] })
  (n : Nat) (hn : acc.length = n) (hs : a.eval s = .slice ao n cap) (hx : a.eval x = .slice bo m c)
  (hK : ∀ (ap : Option Addr) (cap2 : Nat) (w2 : World), OwnE B0 B w w2 ap cap2 (acc ++ R) -> wpList Tryz.prog ops Q rest (a.put o.dst (.slice ap (n + m) cap2)) w2) :
  wpList Tryz.prog ops Q (o :: rest) a w' := by
 subst hn
 obtain ⟨i0, hi, hz0, hz1, hz2⟩ := info_parts info28
 have hB := O.hB
 have hB0 := O.hB0
 cases bo with
 | none =>
  obtain ⟨rfl, rfl⟩ := hR.2.1 rfl
  obtain rfl : R = [] := List.eq_nil_of_length_eq_zero hR.1
  refine wpList_append_own_none hgd s x 22 ho B 36 i0 4 Tryz.underlying22 hi _ acc.length (ecs acc) hs O.own hx ?_
  have := hK ao cap w' (by rw [List.append_nil]; exact O)
  exact this
 | some ad =>
  refine wpList_append_own _ hgd s x 22 ho B 36 i0 (.agg #[.int .i64 0, .int .i64 0, .string ⟨#[]⟩, .int .i64 0]) 4 40 Tryz.underlying22 hi hz0 hz1 hz2 rfl (by decide) _ acc.length (ecs acc) hs O.own ad m c (ecs R) hx (by rw [ecs_length, hR.1]) (fun j u hj => hR.cells j u hj) (ecs_onecell R) (by unfold maxLen; omega) (by omega) hB ?_
  intro v' w2 hown hgrow _
  have hrow : ∀ k, (Value.slice ao acc.length cap).ownBlock = some k -> B <= k := fun k hk => (O.own.lt k hk).1
  have hsz := hgrow.size
  have hbel : Below B0 w w2 := O.below.grown hgrow (by omega) (fun k hk => by have := hrow k hk; omega)
  have hm : m = R.length := hR.1.symm
  have hown2 : w2.ownsRow B 36 4 v' (acc ++ R).length (ecs (acc ++ R)) := by rw [List.length_append, ecs_append, <- hm]; exact hown
  rcases hown.2 with ⟨h0, h00⟩ | ⟨g, cap2, cur, hv, r⟩
  ·subst h0
   have e0 : acc.length + m = 0 := h00
   have := hK none 0 w2 ⟨by rw [List.length_append, <- hm, e0] at hown2; rw [List.length_append, <- hm, e0]; exact hown2, hbel, by omega, hB0⟩
   rwa [e0] at this
  ·subst hv
   exact hK (some ⟨g, 0, none⟩) cap2 w2 ⟨by rw [List.length_append, <- hm] at hown2 ⊢; exact hown2, hbel, by omega, hB0⟩
theorem concat_any (gb : Nat) (ao bo : Option Addr) (n cap m cap' : Nat) (L R : List En) (w : World) (hS : ESrc w ao n cap L) (hR : ESrc w bo m cap' R) (c0 : w.cell? ⟨gb, 0, none⟩ = some (.slice ao n cap)) (c1 : w.cell? ⟨gb, 1, none⟩ = some (.slice bo m cap')) (hlen : n + m <= 3518437208883) :
  Calls Tryz.prog 66 #[.slice (some ⟨gb, 0, none⟩) 2 2] w fun e w' => ∃ ap c, e = .returned (.slice ap (n + m) c) /\ OwnE w.heap.size w.heap.size w w' ap c (L ++ R) := by
 have HS := hide hS
 have HR := hide hR
 have HL : Hid (L.length = n) := hS.1
 have HLR : Hid (R.length = m) := hR.1
 have HC0 := hide c0
 have HC1 := hide c1
 clear hS hR
 go_enter Tryz.func66, Tryz.ntmps66
 go_wp2_with fail
 go_loopw [3, 5, 11] (fun s _ i wr => ∃ k z : Nat, k <= 2 /\ s = .int .i64 z /\ i = .int .i64 k /\ z = (if k = 0 then 0 else if k = 1 then n else n + m) /\ w = wr) (fun _ _ i _ => 2 - (intOf i).toNat)
 case atStart => exact ⟨0, 0, Nat.zero_le _, rfl, rfl, rfl, rfl⟩
 case round =>
  obtain ⟨k, z, hk, rfl, rfl, hz, rfl⟩ := hrel
  by_cases h2 : k = 2
  ·subst h2
   simp at hz
   subst hz
   clear c0 c1
   go_wp2_with fail
   refine (grow_nil (n + m) _ hlen).mono ?_
   rintro e w3 ⟨a3, c3, rfl, O3⟩
   have HO3 := hide O3
   clear O3
   go_wp2_with fail
   go_loopw [6, 8, 27] (fun v _ i wr => ∃ (k : Nat) (ap : Option Addr) (c : Nat) (acc : List En), k <= 2 /\ v = .slice ap acc.length c /\ i = .int .i64 k /\ Hid (acc = (if k = 0 then [] else if k = 1 then L else L ++ R) /\ OwnE w.heap.size w.heap.size w wr ap c acc)) (fun _ _ i _ => 2 - (intOf i).toNat)
   case atStart => exact ⟨0, a3, c3, [], Nat.zero_le _, rfl, rfl, rfl, HO3.out⟩
   case round =>
    clear HO3
    obtain ⟨k, ap, c, acc, hk, rfl, rfl, H⟩ := hrel
    rename World => w4
    have d0 : w4.cell? ⟨gb, 0, none⟩ = some (.slice ao n cap) := by rw [H.out.2.below.cell (World.block_lt_of_cell? _ _ HC0.out)]; exact HC0.out
    have d1 : w4.cell? ⟨gb, 1, none⟩ = some (.slice bo m cap') := by rw [H.out.2.below.cell (World.block_lt_of_cell? _ _ HC1.out)]; exact HC1.out
    by_cases h2 : k = 2
    ·subst h2
     have HF : Hid (∃ c', (Value.slice ap acc.length c : Value) = .slice ap (n + m) c' /\ OwnE w.heap.size w.heap.size w w4 ap c' (L ++ R)) := by
      have e : acc = L ++ R := H.out.1
      rw [e, List.length_append, HL.out, HLR.out]
      exact ⟨c, rfl, by rw [<- e]; exact H.out.2⟩
     clear d0 d1
     go_wp2_with fail
     go_ret
     obtain ⟨c', e1, e2⟩ := HF.out
     exact ⟨ap, c', by rw [e1]; rfl, e2⟩
    ·by_cases h1 : k = 1
     ·subst h1
      have e : acc = L := H.out.1
      have hal : acc.length = n := by rw [e]; exact HL.out
      have HR4 := hide (HR.out.below H.out.2.below)
      go_wp2_with (at_builtin; refine H.out.2.appendAll bo m cap' R HR4.out (by omega) rfl (.tmp 31) (.tmp 32) rfl acc.length rfl rfl rfl ?_; intro a5 c5 w5 O5)
      go_roundw
      case rel => exact ⟨1 + 1, a5, c5, acc ++ R, by omega, by simp [List.length_append, HLR.out, HL.out, e], by go_num, by rw [e]; rfl, O5⟩
      case measure => simp [intOf]
     ·obtain rfl : k = 0 := by omega
      have e : acc = [] := H.out.1
      have hal : acc.length = 0 := by rw [e]; rfl
      have HS4 := hide (HS.out.below H.out.2.below)
      go_wp2_with (at_builtin; refine H.out.2.appendAll ao n cap L HS4.out (by omega) rfl (.tmp 31) (.tmp 32) rfl acc.length rfl rfl rfl ?_; intro a5 c5 w5 O5)
      go_roundw
      case rel => exact ⟨0 + 1, a5, c5, acc ++ L, by omega, by simp [HL.out, e], by go_num, by rw [e]; rfl, O5⟩
      case measure => simp [intOf]
  ·by_cases h1 : k = 1
   ·subst h1
    simp at hz
    subst hz
    go_wp2_with fail
    go_roundw
    case rel => exact ⟨1 + 1, z + m, by omega, by go_num, by go_num, rfl, trivial⟩
    case measure => simp [intOf]
   ·obtain rfl : k = 0 := by omega
    simp at hz
    subst hz
    go_wp2_with fail
    go_roundw
    case rel => exact ⟨0 + 1, n, by omega, by go_num, by go_num, rfl, trivial⟩
    case measure => simp [intOf]
end
section
open Go.RowKit

def code (e : En) : Int := e.rep * 1000000000 + e.num
theorem code_lt {x y : En} (hx : ceE x = 0) (hy : ceE y = 0) (h : ahead x y = true) : code x < code y := by
 have bx : ∀ z : En, ceE z = 0 -> (0 <= z.rep /\ z.rep < 16) /\ 1 <= z.num /\ z.num <= 1000000000 := by
  intro z hz
  unfold ceE at hz
  by_cases h1 : isR z.rep = false
  ·rw [if_pos h1] at hz; omega
  ·rw [if_neg h1] at hz
   by_cases h2 : z.num < 1 ∨ 1000000000 < z.num
   ·rw [if_pos h2] at hz; omega
   ·have h1' : isR z.rep = true := by simpa using h1
    unfold isR at h1'
    simp at h1'
    exact ⟨h1', by omega, by omega⟩
 have b1 := bx x hx
 have b2 := bx y hy
 simp [ahead] at h
 unfold code
 omega
theorem code_bd {z : En} (hz : ceE z = 0) : 1 <= code z /\ code z <= 16000000000 := by
 unfold ceE at hz
 by_cases h1 : isR z.rep = false
 ·rw [if_pos h1] at hz; omega
 ·rw [if_neg h1] at hz
  by_cases h2 : z.num < 1 ∨ 1000000000 < z.num
  ·rw [if_pos h2] at hz; omega
  ·have h1' : isR z.rep = true := by simpa using h1
   unfold isR at h1'
   simp at h1'
   unfold code
   omega
theorem okN_at (L : List En) (n : Nat) (h : okN L n = true) (k : Nat) (hk : k < n) : okAt L k = true := by
 unfold okN at h
 exact List.all_eq_true.1 h k (List.mem_range.2 hk)
theorem chk_zero {L : List En} (h : chk L = 0) : okN L L.length = true := by
 unfold chk at h
 by_cases e : okN L L.length = true
 ·exact e
 ·rw [if_neg e] at h; omega
theorem chk_len {L : List En} (h : chk L = 0) : L.length <= 16000000000 := by
 have ho := chk_zero h
 have key : ∀ k, k < L.length -> ((k : Nat) : Int) + 1 <= code (L.getD k en0) := by
  intro k
  induction k with
  | zero =>
   intro hk
   have := okN_at L _ ho 0 hk
   simp [okAt] at this
   have := code_bd this
   simpa using this.1
  | succ k ih =>
   intro hk
   have h1 := okN_at L _ ho (k + 1) hk
   have h0 := okN_at L _ ho k (by omega)
   simp only [okAt, Bool.and_eq_true, beq_iff_eq, Bool.or_eq_true, decide_eq_true_eq, Nat.add_sub_cancel] at h0 h1
   have ha : ahead (L.getD k en0) (L.getD (k + 1) en0) = true := by
    rcases h1.2 with e | e
    ·omega
    ·exact e
   have := code_lt h0.1 h1.1 ha
   have := ih (by omega)
   omega
 rcases Nat.eq_zero_or_pos L.length with h0 | h0
 ·omega
 ·have h1 := key (L.length - 1) (by omega)
  have h2 := okN_at L _ ho (L.length - 1) (by omega)
  simp only [okAt, Bool.and_eq_true, beq_iff_eq] at h2
  have := (code_bd h2.1).2
  omega
end
section
open Go.RowKit Go.Lib
attribute [local go_sem ↓] ld28_eq st28_eq
attribute [local go_sem] zero_EC cells_EV EC_size fold_EC
def UnionOf (A B R : List En) (er : Int) : Prop := (¬ (chk A = 0 /\ chk B = 0) /\ R = [] /\ er = 1) ∨ ((chk A = 0 /\ chk B = 0) /\ Settled (A ++ B) R er)
theorem UnionOf.unique {A B R R' : List En} {e e' : Int} (h : UnionOf A B R e) (h' : UnionOf A B R' e') : R = R' /\ e = e' := by
 rcases h with ⟨a, b, c⟩ | ⟨a, b⟩
 ·rcases h' with ⟨_, b', c'⟩ | ⟨a', _⟩
  ·exact ⟨b.trans b'.symm, c.trans c'.symm⟩
  ·exact absurd a' a
 ·rcases h' with ⟨a', _⟩ | ⟨_, b'⟩
  ·exact absurd a a'
  ·exact b.unique b'
def GivesU (w w' : World) (e : Ending) (A B : List En) : Prop := ∃ ao n c R er, e = .returned (.tuple #[.slice ao n c, .int .i64 er]) /\ ESrc w' ao n c R /\ Below w.heap.size w w' /\ UnionOf A B R er
def GivesUN (w w' : World) (e : Ending) (A B : List En) : Prop := ∃ ao n c R er, e = .returned (.tuple #[.slice ao n c, .int .i64 er]) /\ ESrc w' ao n c R /\ Below w.heap.size w w' /\ (∀ ad, ao = some ad -> w.heap.size <= ad.block) /\ UnionOf A B R er
theorem unionBad {w w' : World} {A B : List En} (h : ¬ (chk A = 0 /\ chk B = 0)) (hb : Below w.heap.size w w') : GivesUN w w' (.returned (.tuple #[.slice none 0 0, .int .i64 1])) A B :=
 ⟨none, 0, 0, [], 1, rfl, ESrc.none _, hb, fun ad h => (by cases h), Or.inl ⟨h, rfl, rfl⟩⟩
theorem unionN_any (ao bo : Option Addr) (n cap m cap' : Nat) (A B : List En) (w : World) (hS : ESrc w ao n cap A) (hR : ESrc w bo m cap' B) :
  Calls Tryz.prog 36 #[.slice ao n cap, .slice bo m cap'] w fun e w' => GivesUN w w' e A B := by
 have HS := hide hS
 have HR := hide hR
 clear hS hR
 obtain ⟨p, Hp⟩ : ∃ p, Hid (chk A = p) := ⟨_, rfl⟩
 obtain ⟨q, Hq⟩ : ∃ q, Hid (chk B = q) := ⟨_, rfl⟩
 by_cases h1 : p = 0
 ·by_cases h2 : q = 0
  ·have HA : Hid (chk A = 0 /\ chk B = 0) := ⟨Hp.out.trans h1, Hq.out.trans h2⟩
   have d1 : (p != 0) = false := by simpa using h1
   have d2 : (q != 0) = false := by simpa using h2
   have hlen : n + m <= 3518437208883 := by
    have l1 := chk_len HA.out.1
    have l2 := chk_len HA.out.2
    rw [HS.out.1] at l1
    rw [HR.out.1] at l2
    omega
   clear h1 h2
   go_enter Tryz.func36, Tryz.ntmps36
   go_wp2_with fail
   refine (lcheck_any ao n cap A _ HS.out).mono ?_
   rintro e w1 ⟨rfl, b1⟩
   rw [Hp.out]
   have HB1 := hide b1
   clear b1
   go_wp2_with fail
   refine (lcheck_any bo m cap' B _ (HR.out.below HB1.out)).mono ?_
   rintro e w2 ⟨rfl, b2⟩
   rw [Hq.out]
   have HB2 := hide (HB1.out.trans (b2.mono HB1.out.size))
   clear b2
   go_wp2_with fail
   have B3 := below_new w2 (.cells #[.slice ao n cap, .slice bo m cap'] 22)
   have k0 : (w2.alloc (.cells #[.slice ao n cap, .slice bo m cap'] 22)).cell? ⟨w2.heap.size, 0, none⟩ = some (.slice ao n cap) := by simp
   have k1 : (w2.alloc (.cells #[.slice ao n cap, .slice bo m cap'] 22)).cell? ⟨w2.heap.size, 1, none⟩ = some (.slice bo m cap') := by simp
   have HB3 := hide (HB2.out.trans (B3.mono HB2.out.size))
   refine (concat_any w2.heap.size ao bo n cap m cap' A B _ (HS.out.below HB3.out) (HR.out.below HB3.out) k0 k1 hlen).mono ?_
   rintro e w4 ⟨a4, c4, rfl, O4⟩
   have HO4 := hide O4
   have HB4 := hide (HB3.out.trans (O4.below.mono HB3.out.size))
   have HZ : Hid (w.heap.size <= (w2.alloc (.cells #[.slice ao n cap, .slice bo m cap'] 22)).heap.size) := HB3.out.size
   have hsk : ∀ e ∈ A ++ B, e.sku.size <= maxLen := fun e he => by
    rcases List.mem_append.1 he with h | h
    ·exact HS.out.2.2.2.1 e h
    ·exact HR.out.2.2.2.1 e h
   have HSK := hide hsk
   have HLL : Hid ((A ++ B).length = n + m) := by show _ = _; rw [List.length_append, HS.out.1, HR.out.1]
   clear O4 B3 k0 k1 hsk
   cases a4 with
   | none =>
    obtain ⟨S4, _⟩ := HO4.out.src HSK.out (by rw [HLL.out]; exact hlen)
    obtain ⟨e1, rfl⟩ := S4.2.1 rfl
    have HE : Hid (A ++ B = []) := List.eq_nil_of_length_eq_zero e1
    have hnm : n + m = 0 := by rw [<- HLL.out]; exact e1
    rw [hnm]
    clear S4 e1
    go_wp2_with fail
    refine (rising0 none 0 _).mono ?_
    rintro e w6 ⟨rfl, b6⟩
    have HN : Hid (GivesUN w w6 (.returned (.tuple #[.slice none 0 0, .int .i64 0])) A B) := ⟨none, 0, 0, [], 0, rfl, ESrc.none _, HB4.out.trans (b6.mono HB4.out.size), fun ad h => (by cases h), Or.inr ⟨HA.out, by rw [HE.out]; exact settled_nil⟩⟩
    clear b6
    go_wp2_with fail
    go_ret2
    exact HN.out
   | some a4 =>
    obtain ⟨M4, hc1, hc2, hbb⟩ := HO4.out.mr
    have HM4 := hide M4
    have HC1 : Hid (n + m <= c4) := by show _ <= _; rw [<- HLL.out]; exact hc1
    have HC2 := hide hc2
    have HBB : Hid (w.heap.size <= a4.block) := Nat.le_trans HZ.out hbb
    clear M4 hc1 hc2 hbb
    go_wp2_with fail
    refine (rising_any a4 c4 (n + m) (A ++ B).toArray _ HM4.out (by rw [List.size_toArray]; exact HLL.out) hlen HC1.out HC2.out (by simpa using HSK.out)).mono ?_
    rintro e w6 ⟨a6, n6, c6, R6, er, rfl, S6, b6, f6, t6⟩
    have HN : Hid (GivesUN w w6 (.returned (.tuple #[.slice a6 n6 c6, .int .i64 er])) A B) :=
     ⟨a6, n6, c6, R6, er, rfl, S6, HB4.out.trans (b6.mono HBB.out), fun ad h => Nat.le_trans HBB.out (f6 ad h), Or.inr ⟨HA.out, by simpa using t6⟩⟩
    clear S6 b6 f6 t6
    go_wp2_with fail
    go_ret2
    exact HN.out
  ·have HX : Hid (¬ (chk A = 0 /\ chk B = 0)) := fun h => h2 (Hq.out.symm.trans h.2)
   have d1 : (p != 0) = false := by simpa using h1
   have d2 : (q != 0) = true := by simpa using h2
   clear h1 h2
   go_enter Tryz.func36, Tryz.ntmps36
   go_wp2_with fail
   refine (lcheck_any ao n cap A _ HS.out).mono ?_
   rintro e w1 ⟨rfl, b1⟩
   rw [Hp.out]
   have HB1 := hide b1
   clear b1
   go_wp2_with fail
   refine (lcheck_any bo m cap' B _ (HR.out.below HB1.out)).mono ?_
   rintro e w2 ⟨rfl, b2⟩
   rw [Hq.out]
   have HB2 := hide (HB1.out.trans (b2.mono HB1.out.size))
   clear b2
   go_wp2_with fail
   go_ret2
   exact unionBad HX.out HB2.out
 ·have HX : Hid (¬ (chk A = 0 /\ chk B = 0)) := fun h => h1 (Hp.out.symm.trans h.1)
  have d1 : (p != 0) = true := by simpa using h1
  clear h1
  go_enter Tryz.func36, Tryz.ntmps36
  go_wp2_with fail
  refine (lcheck_any ao n cap A _ HS.out).mono ?_
  rintro e w1 ⟨rfl, b1⟩
  rw [Hp.out]
  have HB1 := hide b1
  clear b1
  go_wp2_with fail
  go_ret2
  exact unionBad HX.out HB1.out
end
end Go.Proofs.YtalpnhfoaohhhaaGreat.K
namespace Go.Proofs.YtalpnhfoaohhhaaGreat
section
open Go.RowKit
structure FcN (N : Nat) (f : Fc) : Prop where
 a : ∀ ad, f.ao = some ad -> N <= ad.block
 p : PNew N f.p
 r : ∀ ad, f.ro = some ad -> N <= ad.block
 q : ∀ c ∈ f.rs, PNew N c.p
theorem FcN.mono {N M : Nat} {f : Fc} (h : FcN N f) (hm : M <= N) : FcN M f := ⟨fun ad e => Nat.le_trans hm (h.a ad e), h.p.mono hm, fun ad e => Nat.le_trans hm (h.r ad e), fun c hc => (h.q c hc).mono hm⟩
def FcR (f : Fc) : Prop := f.rn <= f.rc /\ (f.ro = none -> f.rc = 0)
theorem FcOk.row {w : World} {f : Fc} (h : FcOk w f) (hr : FcR f) : RcT w f.ro f.rn f.rc f.rs := ⟨h.rs, hr.1, hr.2⟩
theorem FcOk.off2 {w w' : World} {f : Fc} {N : Nat} (h : FcOk w f) (hn : FcN N f) (hk : ∀ k, N <= k -> w'.heap[k]? = w.heap[k]?) : FcOk w' f :=
 ⟨h.es.kept (fun ad e => hk _ (hn.a ad e)), psrc_off h.p (fun ad e => hk _ (hn.p.1 ad e)) (fun ad e => hk _ (hn.p.2 ad e)), rcs_mv h.rs (fun ad e => hk _ (hn.r ad e)) (fun r hr => ⟨psrc_off (h.rs.ok r hr).1 (fun ad e => hk _ ((hn.q r hr).1 ad e)) (fun ad e => hk _ ((hn.q r hr).2 ad e)), (h.rs.ok r hr).2⟩)⟩
theorem res2Fb {w : World} {g : Nat} {fn : Func} {p q : Tmp} {m : FacV} {v : Value} (h : fn.results = #[.cell p 29, .tmp q]) {tmps : Array Value} (hp : tmps.getD p undef = .pointer (some ⟨g, 0, none⟩)) (hq : tmps.getD q undef = v) (A : FaBox w g m) :
  (results fn tmps).run Tryz.prog w = .ok (.tuple #[FaV m, v]) w := by
 have hl := run_lvFa A
 simp only [results, h]
 rw [Array.getD_eq_getD_getElem?] at hp hq
 simp [hp, hq, asAddr, hl]
def fz0 : Fc := ⟨none, 0, 0, [], pv0, none, 0, 0, []⟩
theorem fz0_ok (w : World) : FcOk w fz0 := ⟨⟨rfl, fun _ => ⟨rfl, rfl⟩, fun ad h => (by cases h), fun e he => (by cases he), Nat.zero_le _⟩, PSrc.zero w, RcS.empty w⟩
theorem fz0_new (N : Nat) : FcN N fz0 := ⟨fun ad h => (by cases h), ⟨fun ad h => (by cases h), fun ad h => (by cases h)⟩, fun ad h => (by cases h), fun c hc => (by cases hc)⟩
theorem fz0_row : FcR fz0 := ⟨Nat.le_refl _, fun _ => rfl⟩
theorem zero_FaZ : (#[.slice none 0 0, .slice none 0 0, .slice none 0 0, .slice none 0 0] : Array Value) = FaC (mkF fz0) := rfl
def bldF (a : Array (Nat × Value)) : Sem Value := Instr.build 29 a
theorem bldF_eq (a : Array (Nat × Value)) : Instr.build 29 a = bldF a := rfl
theorem run_bldF0 (w : World) : (bldF #[]).run Tryz.prog w = .ok (.agg (FaC (mkF fz0))) w := by kernel_rfl
theorem run_bldF12 (a b : Option Addr) (n c m d : Nat) (p : Pv) (w : World) : (bldF #[(0, .slice a n c), (1, .agg (PC p)), (2, .slice b m d)]).run Tryz.prog w = .ok (.agg #[.slice a n c, .slice p.vo p.vn p.vc, .slice p.co p.cn p.cc, .slice b m d]) w := by kernel_rfl
def FcD (w w' : World) (e : Ending) (D : Fc -> Int -> Prop) : Prop := ∃ f er, e = .returned (.tuple #[FaV (mkF f), .int .i64 er]) /\ FcOk w' f /\ FcR f /\ FcN w.heap.size f /\ Below w.heap.size w w' /\ D f er
theorem give_fc {w W : World} {g : Nat} {m0 : FacV} {f : Fc} {er : Int} (D : Fc -> Int -> Prop) (hX : FaBox W g m0) (hF : FcOk W f) (hr : FcR f) (hn : FcN (g + 1) f) (hb : Below w.heap.size w W) (hg : w.heap.size <= g) (hD : D f er) :
  FaBox (W.setRow g (FaC (mkF f))) g (mkF f) /\ FcD w (W.setRow g (FaC (mkF f))) (.returned (.tuple #[FaV (mkF f), .int .i64 er])) D :=
 ⟨hX.setRow, f, er, rfl, hF.off2 hn (fun k hk => setRow_other _ _ _ _ (by omega)), hr, hn.mono (by omega), below_setRow hb hg, hD⟩
theorem canon_wt2 {P Q : Pst} (hP : InForm P) (hQ : InForm Q) : (1 + P.cloud.length) + ((1 + Q.cloud.length) + 0) <= 8796093022207 := by
 have h1 := (canon_len (canon_iff.2 hP : CanonOf (runsAt P) P)).1
 have h2 := (canon_len (canon_iff.2 hQ : CanonOf (runsAt Q) Q)).1
 omega
def JnOf (c : Int) (f g h : Fc) (er : Int) : Prop := (¬ (FormF f /\ FormF g) /\ er = 1 /\ h = fz0) ∨ (FormF f /\ FormF g /\ ∃ R e, K.UnionOf f.es g.es R e /\ ((e ≠ 0 /\ er = (if c = 0 then e else c) /\ h = fz0) ∨ (e = 0 /\ er = 0 /\ h.es = R /\ CanonOf (runsOf [f.p, g.p]) h.p.P /\ UnOf f.rs g.rs h.rs /\ h.rn <= f.rn + g.rn)))
theorem bsP2_wt {p q : Pv} (hP : InForm p.P) (hQ : InForm q.P) : wt [p, q] <= 8796093022207 := canon_wt2 hP hQ
def bsPs (a : Array (Nat × Value)) : Sem Value := Instr.buildSlice 59 2 a
theorem bsPs_eq (a : Array (Nat × Value)) : Instr.buildSlice 59 2 a = bsPs a := rfl
theorem run_bsPs (p q : Pv) (w : World) : (bsPs #[(0, .agg (PC p)), (1, .agg (PC q))]).run Tryz.prog w = .ok (.slice (some ⟨w.heap.size, 0, none⟩) 2 2) (w.alloc (.cells #[.slice p.vo p.vn p.vc, .slice p.co p.cn p.cc, .slice q.vo q.vn q.vc, .slice q.co q.cn q.cc] 26)) := by kernel_rfl
theorem prow2 (w : World) (p q : Pv) (hp : PSrc w p) (hq : PSrc w q) : PRow (w.alloc (.cells #[.slice p.vo p.vn p.vc, .slice p.co p.cn p.cc, .slice q.vo q.vn q.vc, .slice q.co q.cn q.cc] 26)) (some ⟨w.heap.size, 0, none⟩) 2 [p, q] := by
 refine prow_lit _ w.heap.size [p, q] _ rfl 26 2 rfl (heap_alloc_new w _) (fun x hx => ?_)
 rcases List.mem_cons.1 hx with rfl | hx
 ·exact hp.below (below_new w _)
 ·obtain rfl := List.mem_singleton.1 hx
  exact hq.below (below_new w _)
end
section
open Go.RowKit
attribute [local go_sem ↓] ldP_eq stP_eq ldFa_eq stFa_eq bldF_eq bsPs_eq
attribute [local go_sem] cells_PV PC_size cells_FaV FaC_size zero_FaZ run_bldF0 run_bldF12 run_bsPs
theorem tJoin_any (f g : Fc) (w : World) (hF : FcOk w f) (hG : FcOk w g) (hf : FcR f) (hg : FcR g) (hnm : f.rn + g.rn <= 2199023255551) :
  Calls Tryz.prog 15 #[FaV (mkF f), FaV (mkF g)] w fun e w' => FcD w w' e (JnOf 0 f g) := by
 obtain ⟨w2, hw2, HX2, HY2, HB2⟩ := box2F w f g
 have b3 := below_new w2 (.cells (FaC (mkF fz0)) 29)
 have X3 := FaBox_new w2 (mkF fz0)
 have hs2 : w2.heap.size = w.heap.size + 2 := by rw [<- hw2]; simp
 obtain ⟨wk, hwk⟩ : ∃ wk, w2.alloc (.cells (FaC (mkF fz0)) 29) = wk := ⟨_, rfl⟩
 rw [hwk] at b3 X3
 rw [hs2] at X3
 obtain ⟨G, hG0⟩ : ∃ G, w.heap.size = G := ⟨_, rfl⟩
 rw [hG0] at X3 HX2 HY2
 have HX := hide (HX2.out.below b3)
 have HY := hide (HY2.out.below b3)
 have HZ := hide X3
 have HBK := hide (HB2.out.trans (b3.mono HB2.out.size))
 have HF := hide (hF.below HBK.out)
 have HG := hide (hG.below HBK.out)
 have HR : Hid (FcR f /\ FcR g /\ f.rn + g.rn <= 2199023255551) := ⟨hf, hg, hnm⟩
 have HGs : Hid (w.heap.size = G) := hG0
 clear hF hG hf hg hnm b3 X3 HX2 HY2 HB2
 have lf := run_ldFa HX.out
 have lg := run_ldFa HY.out
 go_enter Tryz.func15, Tryz.ntmps15
 go_wp2_with fail
 clear hw2 hwk hs2 hG0
 refine (checkBoth_any f g _ HF.out HG.out).mono ?_
 rintro e w3 ⟨x, rfl, hx, b3⟩
 have HB3 := hide (HBK.out.trans (b3.mono HBK.out.size))
 have HX3 := hide (HX.out.below b3)
 have HY3 := hide (HY.out.below b3)
 have HZ3 := hide (HZ.out.below b3)
 have HF3 := hide (HF.out.below b3)
 have HG3 := hide (HG.out.below b3)
 clear b3 lf lg
 rcases hx with ⟨rfl, h1, h2⟩ | ⟨rfl, h1⟩
 rotate_left
 ·have st0 := run_stFa (m' := mkF fz0) HZ3.out
  have HE := hide (give_fc (w := w) (f := fz0) (er := 1) (JnOf 0 f g) HZ3.out (fz0_ok _) fz0_row (fz0_new _) HB3.out (by rw [HGs.out]; omega) (.inl ⟨h1, rfl, rfl⟩))
  clear h1
  go_wp2_with fail
  clear st0
  refine bodyPost_ret (res2Fb rfl rfl rfl HE.out.1) rfl ?_
  exact HE.out.2
 have HFo : Hid (FormF f /\ FormF g) := ⟨h1, h2⟩
 obtain ⟨c0, c3⟩ := HX3.out.cs
 obtain ⟨d0, d3⟩ := HY3.out.cs
 clear h1 h2
 go_wp2_with fail
 clear c0 c3 d0 d3
 refine (K.unionN_any f.ao g.ao f.an f.ac g.an g.ac f.es g.es _ HF3.out.es HG3.out.es).mono ?_
 rintro e w4 ⟨ao, n, c, R, er, rfl, S4, b4, n4, u4⟩
 have HB4 := hide (HB3.out.trans (b4.mono HB3.out.size))
 have HX4 := hide (HX3.out.below b4)
 have HY4 := hide (HY3.out.below b4)
 have HZ4 := hide (HZ3.out.below b4)
 have HF4 := hide (HF3.out.below b4)
 have HG4 := hide (HG3.out.below b4)
 have HS4 := hide S4
 have HN4 : Hid (∀ ad, ao = some ad -> G + 3 <= ad.block) := fun ad e => Nat.le_trans (by have := HZ3.out.lt; omega) (n4 ad e)
 have HU4 := hide u4
 clear b4 S4 n4 u4
 by_cases h0 : er = 0
 rotate_left
 ·have hne : (er != 0) = true := by simp [h0]
  have st0 := run_stFa (m' := mkF fz0) HZ4.out
  have HE := hide (give_fc (w := w) (f := fz0) (er := er) (JnOf 0 f g) HZ4.out (fz0_ok _) fz0_row (fz0_new _) HB4.out (by rw [HGs.out]; omega) (.inr ⟨HFo.out.1, HFo.out.2, R, er, HU4.out, .inl ⟨h0, by rw [if_pos rfl], rfl⟩⟩))
  clear h0
  go_wp2_with fail
  clear st0
  refine bodyPost_ret (res2Fb rfl rfl rfl HE.out.1) rfl ?_
  exact HE.out.2
 subst h0
 obtain ⟨-, c3⟩ := HX4.out.cs
 obtain ⟨-, d3⟩ := HY4.out.cs
 go_wp2_with fail
 clear c3 d3
 refine (keepUnion_any f.ro g.ro f.rn f.rc g.rn g.rc f.rs g.rs _ (HF4.out.row HR.out.1) (HG4.out.row HR.out.2.1) HR.out.2.2).mono ?_
 rintro e w5 (⟨-, -, h5, F5, rfl, G5, m5, U5⟩ | ⟨hno, -⟩)
 rotate_left
 ·exact absurd ⟨HFo.out.1.2.2, HFo.out.2.2.2⟩ hno
 have b5 := G5.below
 have HB5 := hide (HB4.out.trans (b5.mono HB4.out.size))
 have HX5 := hide (HX4.out.below b5)
 have HY5 := hide (HY4.out.below b5)
 have HZ5 := hide (HZ4.out.below b5)
 have HF5 := hide (HF4.out.below b5)
 have HG5 := hide (HG4.out.below b5)
 have HS5 := hide (HS4.out.below b5)
 have hz : G + 3 <= w4.heap.size := by have := HZ4.out.lt; omega
 have HR5 : Hid (RcT w5 h5.o h5.n h5.c F5 /\ (∀ ad, h5.o = some ad -> G + 3 <= ad.block) /\ (∀ r ∈ F5, PNew (G + 3) r.p)) := ⟨G5.row, fun ad e => Nat.le_trans hz (G5.new ad e), fun r hr => (G5.fresh r hr).mono hz⟩
 have HU5 : Hid (UnOf f.rs g.rs F5 /\ h5.n <= f.rn + g.rn) := ⟨U5, m5⟩
 clear b5 G5 U5 m5 hz
 obtain ⟨ho5, hn5, hc5⟩ := h5
 rw [show HsV ⟨ho5, hn5, hc5⟩ = Value.slice ho5 hn5 hc5 from rfl]
 have lp := run_ldP HX5.out.past
 have lq := run_ldP HY5.out.past
 have hPR := prow2 w5 f.p g.p HF5.out.p HG5.out.p
 have b6 := below_new w5 (.cells #[.slice f.p.vo f.p.vn f.p.vc, .slice f.p.co f.p.cn f.p.cc, .slice g.p.vo g.p.vn g.p.vc, .slice g.p.co g.p.cn g.p.cc] 26)
 have lb := run_bsPs f.p g.p w5
 obtain ⟨g6, hg6⟩ : ∃ g6, w5.heap.size = g6 := ⟨_, rfl⟩
 obtain ⟨w6, hw6⟩ : ∃ w6, w5.alloc (.cells #[.slice f.p.vo f.p.vn f.p.vc, .slice f.p.co f.p.cn f.p.cc, .slice g.p.vo g.p.vn g.p.vc, .slice g.p.co g.p.cn g.p.cc] 26) = w6 := ⟨_, rfl⟩
 rw [hw6] at hPR b6 lb
 rw [hg6] at hPR lb
 have HPR := hide hPR
 have HB6 := hide (HB5.out.trans (b6.mono HB5.out.size))
 have HZ6 := hide (HZ5.out.below b6)
 have HS6 := hide (HS5.out.below b6)
 have HR6 : Hid (RcT w6 ho5 hn5 hc5 F5 /\ (∀ ad, ho5 = some ad -> G + 3 <= ad.block) /\ (∀ r ∈ F5, PNew (G + 3) r.p)) := ⟨HR5.out.1.below b6, HR5.out.2.1, HR5.out.2.2⟩
 clear hPR b6 hg6 hw6
 go_wp2_with fail
 clear lp lq lb
 refine (pastJoin_any (some ⟨g6, 0, none⟩) 2 2 [f.p, g.p] _ HPR.out (bsP2_wt HFo.out.1.2.1 HFo.out.2.2.1) (by decide)).mono ?_
 rintro e w7 ⟨q, rfl, S7, N7, b7, C7⟩
 have hz6 : G + 3 <= w6.heap.size := by have := HZ6.out.lt; omega
 have HFc : Hid (FcOk w7 ⟨ao, n, c, R, q, ho5, hn5, hc5, F5⟩) := ⟨HS6.out.below b7, S7, (HR6.out.1.below b7).src⟩
 have HFn : Hid (FcN (G + 2 + 1) ⟨ao, n, c, R, q, ho5, hn5, hc5, F5⟩) := ⟨HN4.out, N7.mono hz6, HR6.out.2.1, HR6.out.2.2⟩
 have HZ7 := hide (HZ6.out.below b7)
 have HB7 := hide (HB6.out.trans (b7.mono HB6.out.size))
 have stz := run_stFa (m' := mkF ⟨ao, n, c, R, q, ho5, hn5, hc5, F5⟩) HZ7.out
 have HE := hide (give_fc (w := w) (f := ⟨ao, n, c, R, q, ho5, hn5, hc5, F5⟩) (er := 0) (JnOf 0 f g) HZ7.out HFc.out ⟨HR6.out.1.room, HR6.out.1.nil⟩ HFn.out HB7.out (by rw [HGs.out]; omega) (.inr ⟨HFo.out.1, HFo.out.2, R, 0, HU4.out, .inr ⟨rfl, rfl, rfl, C7, HU5.out⟩⟩))
 clear S7 N7 b7 C7 hz6
 replace stz : (stFa (.pointer (some ⟨G + 2, 0, none⟩)) (.agg #[.slice ao n c, .slice q.vo q.vn q.vc, .slice q.co q.cn q.cc, .slice ho5 hn5 hc5])).run Tryz.prog w7 = .ok () (w7.setRow (G + 2) (FaC (mkF ⟨ao, n, c, R, q, ho5, hn5, hc5, F5⟩))) := stz
 go_wp2_with fail
 clear stz
 refine bodyPost_ret (res2Fb rfl rfl rfl HE.out.1) rfl ?_
 exact HE.out.2
end
section
open Go.RowKit
theorem countP_more {D : List Rn} {p q : Rn -> Bool} {a : Rn} (ha : a ∈ D) (hp : p a = true) (hq : q a = false) (hqp : ∀ x, q x = true -> p x = true) : D.countP q + 1 <= D.countP p := by
 induction D with
 | nil => cases ha
 | cons x D ih =>
  have hm : D.countP q <= D.countP p := List.countP_mono_left (fun y _ h => hqp y h)
  rcases List.mem_cons.1 ha with rfl | h
  ·rw [List.countP_cons_of_pos hp, List.countP_cons_of_neg (by rw [hq]; decide)]
   omega
  ·have h1 := ih h
   cases hx : q x
   ·rw [List.countP_cons_of_neg (by rw [hx]; decide)]
    have h2 : D.countP p <= (x :: D).countP p := by rw [List.countP_cons]; omega
    omega
   ·rw [List.countP_cons_of_pos hx, List.countP_cons_of_pos (hqp x hx)]
    omega
theorem runs_count (D : List Rn) (r : Int) : ∀ (X : List Rn) (l : Int), 1 <= l -> form l X -> (∀ n, mem X n -> (⟨r, n⟩ : Rn) ∈ D) -> X.length <= D.countP (fun d => decide (d.lo = r) && decide (l <= d.hi))
 | [], _, _, _, _ => Nat.zero_le _
 | x :: X, l, hl, hf, hD => by
  have h1 := hf.1
  have h2 := hf.2.1
  have h3 := runs_count D r X (x.hi + 2) (by omega) hf.2.2.2 (fun n hn => hD n ((mem_cons _ _ _).2 (.inr hn)))
  have h4 : (⟨r, x.lo⟩ : Rn) ∈ D := hD x.lo ((mem_cons _ _ _).2 (.inl ⟨by omega, by have := hf.2.2.1; omega, Int.le_refl _, h2⟩))
  have h5 := countP_more (p := fun d => decide (d.lo = r) && decide (l <= d.hi)) (q := fun d => decide (d.lo = r) && decide (x.hi + 2 <= d.hi)) h4 (by simp; omega) (by simp; omega) (fun y hy => by simp at hy ⊢; omega)
  simp only [List.length_cons]
  omega
theorem cloud_count {N : Nat -> List Rn} (D : List Rn) : ∀ k : Nat, (∀ r, r < k -> form 1 (N r) /\ ∀ n, mem (N r) n -> (⟨(r : Int), n⟩ : Rn) ∈ D) -> (cloudN N k).length <= D.countP (fun d => decide (0 <= d.lo) && decide (d.lo < (k : Int)))
 | 0, _ => Nat.zero_le _
 | k + 1, h => by
  have h1 := cloud_count D k (fun r hr => h r (by omega))
  have h2 := restOf_len (N k)
  have h3 := runs_count D k (N k) 1 (Int.le_refl _) (h k (by omega)).1 (h k (by omega)).2
  have h4 : D.countP (fun d => decide (0 <= d.lo) && decide (d.lo < (k : Int))) + D.countP (fun d => decide (d.lo = (k : Int)) && decide (1 <= d.hi)) <= D.countP (fun d => decide (0 <= d.lo) && decide (d.lo < ((k + 1 : Nat) : Int))) := by
   clear h h1 h2 h3
   induction D with
   | nil => simp
   | cons x D ih =>
    rw [List.countP_cons, List.countP_cons, List.countP_cons]
    have h5 : (if (decide (0 <= x.lo) && decide (x.lo < (k : Int))) = true then 1 else 0) + (if (decide (x.lo = (k : Int)) && decide (1 <= x.hi)) = true then 1 else 0) <= (if (decide (0 <= x.lo) && decide (x.lo < ((k + 1 : Nat) : Int))) = true then 1 else 0) := by
     simp only [Bool.and_eq_true, decide_eq_true_eq]
     split <;> split <;> split <;> omega
    omega
  rw [cloudN, List.length_append, tag_length]
  omega
theorem canon_count {G : Nat -> List Rn} {P : Pst} (h : CanonOf G P) (D : List Rn) (hD : ∀ r : Nat, r < 16 -> ∀ n, mem (G r) n -> (⟨(r : Int), n⟩ : Rn) ∈ D) : P.cloud.length <= D.length := by
 obtain ⟨N, hN, rfl⟩ := h
 exact Nat.le_trans (cloud_count D 16 (fun r hr => ⟨(hN r hr).1, fun n hn => hD r hr n (((hN r hr).2 n).1 hn)⟩)) List.countP_le_length
end
section
open Go.RowKit
def freeB (R : List Rc) (e : K.En) : Bool := !R.any (fun r => covB r e)
def ApA (w w' : World) (x : Ending) (L : List K.En) (R : List Rc) (n : Nat) : Prop := (K.chk L = 0 /\ OkR R n /\ K.GivesEE w w' x (L.filter (freeB R)) 0) ∨ (¬ (K.chk L = 0 /\ OkR R n) /\ K.GivesEE w w' x [] 1)
end
end Go.Proofs.YtalpnhfoaohhhaaGreat
namespace Go.Proofs
open Go.Shelf
def Tryz.keysM_ren : Go.Shelf.Ren := ⟨fun | 7 => 124 | 10 => 155 | n => n, fun | 23 => 143 | 26 => 9 | 3 => 59 | 28 => 147 | 0 => 0 | 27 => 146 | 33 => 138 | 4 => 4 | n => n, fun | n => n⟩
theorem Tryz.keysM : Go.Proofs.SlLaysZ.n7 Tryz.prog Tryz.keysM_ren := {
 mixed := by kernel_rfl
 f7 := ⟨Tryz.f124.name, by decide, Tryz.func124.trans (congrArg some (by kernel_rfl))⟩
 f10 := ⟨Tryz.f155.name, by decide, Tryz.func155.trans (congrArg some (by kernel_rfl))⟩
 t0 := Tryz.underlying0
 a0 := Tryz.isAgg0
 z0 := Tryz.sizeOf0
 v0 := Tryz.zeroValue0
 t4 := Tryz.underlying4
 a4 := Tryz.isAgg4
 z4 := Tryz.sizeOf4
 v4 := Tryz.zeroValue4
 t23 := Tryz.underlying143
 a23 := Tryz.isAgg143
 z23 := Tryz.sizeOf143
 v23 := Tryz.zeroValue143
 t26 := Tryz.underlying9
 a26 := Tryz.isAgg9
 z26 := Tryz.sizeOf9
 v26 := Tryz.zeroValue9
 t27 := Tryz.underlying146
 a27 := Tryz.isAgg146
 z27 := Tryz.sizeOf146
 v27 := Tryz.zeroValue146
 t28 := Tryz.underlying147
 a28 := Tryz.isAgg147
 z28 := Tryz.sizeOf147
 v28 := Tryz.zeroValue147
 t33 := Tryz.underlying138
 a33 := Tryz.isAgg138
 z33 := Tryz.sizeOf138
 v33 := Tryz.zeroValue138 }
def Tryz.sortedM_ren : Go.Shelf.Ren := ⟨fun | 6 => 123 | 8 => 153 | 9 => 154 | 11 => 177 | 13 => 133 | 12 => 178 | 23 => 165 | 24 => 166 | 14 => 199 | 15 => 200 | 16 => 201 | 17 => 202 | 18 => 203 | 19 => 204 | 20 => 205 | 21 => 206 | 22 => 207 | 25 => 220 | 26 => 188 | 27 => 189 | 28 => 221 | 29 => 222 | 30 => 223 | 31 => 228 | n => n, fun | 26 => 9 | 28 => 147 | 24 => 144 | 0 => 0 | 3 => 3 | 37 => 119 | 48 => 182 | 50 => 184 | 4 => 4 | 40 => 176 | 39 => 175 | 45 => 76 | 5 => 5 | 9 => 9 | 51 => 198 | 55 => 202 | 57 => 214 | 58 => 165 | 33 => 138 | n => n, fun | n => n⟩
theorem Tryz.sortedM : Go.Proofs.SlLaysZ.n6 Tryz.prog Tryz.sortedM_ren := {
 mixed := by kernel_rfl
 f6 := ⟨Tryz.f123.name, by decide, Tryz.func123.trans (congrArg some (by kernel_rfl))⟩
 f8 := ⟨Tryz.f153.name, by decide, Tryz.func153.trans (congrArg some (by kernel_rfl))⟩
 f11 := ⟨Tryz.f177.name, by decide, Tryz.func177.trans (congrArg some (by kernel_rfl))⟩
 t0 := Tryz.underlying0
 a0 := Tryz.isAgg0
 z0 := Tryz.sizeOf0
 v0 := Tryz.zeroValue0
 t24 := Tryz.underlying144
 a24 := Tryz.isAgg144
 z24 := Tryz.sizeOf144
 v24 := Tryz.zeroValue144
 t26 := Tryz.underlying9
 a26 := Tryz.isAgg9
 z26 := Tryz.sizeOf9
 v26 := Tryz.zeroValue9
 t28 := Tryz.underlying147
 a28 := Tryz.isAgg147
 z28 := Tryz.sizeOf147
 v28 := Tryz.zeroValue147
 i26 := by kernel_rfl }
def Tryz.sortM_ren : Go.Shelf.Ren := ⟨fun | 6 => 154 | 8 => 133 | 9 => 178 | 19 => 165 | 20 => 166 | 21 => 199 | 22 => 200 | 23 => 201 | 24 => 202 | 25 => 203 | 26 => 204 | 27 => 205 | 28 => 206 | 29 => 207 | 36 => 220 | 31 => 188 | 32 => 189 | 37 => 221 | 38 => 222 | 39 => 223 | 41 => 228 | n => n, fun | 27 => 144 | 29 => 9 | 3 => 3 | 32 => 119 | 26 => 144 | 0 => 0 | 44 => 182 | 46 => 184 | 4 => 4 | 36 => 176 | 35 => 175 | 41 => 76 | 5 => 5 | 9 => 9 | 53 => 198 | 57 => 202 | 63 => 214 | 64 => 165 | n => n, fun | n => n⟩
theorem Tryz.sortM : Go.Proofs.SlLaysM.n6 Tryz.prog Tryz.sortM_ren := {
 mixed := by kernel_rfl
 f6 := ⟨Tryz.f154.name, by decide, Tryz.func154.trans (congrArg some (by kernel_rfl))⟩
 f8 := Tryz.func133.trans (congrArg some (by kernel_rfl))
 f9 := ⟨Tryz.f178.name, by decide, Tryz.func178.trans (congrArg some (by kernel_rfl))⟩
 f19 := Tryz.func165.trans (congrArg some (by kernel_rfl))
 f20 := Tryz.func166.trans (congrArg some (by kernel_rfl))
 f21 := ⟨Tryz.f199.name, by decide, Tryz.func199.trans (congrArg some (by kernel_rfl))⟩
 f22 := ⟨Tryz.f200.name, by decide, Tryz.func200.trans (congrArg some (by kernel_rfl))⟩
 f23 := ⟨Tryz.f201.name, by decide, Tryz.func201.trans (congrArg some (by kernel_rfl))⟩
 f24 := ⟨Tryz.f202.name, by decide, Tryz.func202.trans (congrArg some (by kernel_rfl))⟩
 f25 := ⟨Tryz.f203.name, by decide, Tryz.func203.trans (congrArg some (by kernel_rfl))⟩
 f26 := ⟨Tryz.f204.name, by decide, Tryz.func204.trans (congrArg some (by kernel_rfl))⟩
 f27 := ⟨Tryz.f205.name, by decide, Tryz.func205.trans (congrArg some (by kernel_rfl))⟩
 f28 := ⟨Tryz.f206.name, by decide, Tryz.func206.trans (congrArg some (by kernel_rfl))⟩
 f29 := ⟨Tryz.f207.name, by decide, Tryz.func207.trans (congrArg some (by kernel_rfl))⟩
 f31 := Tryz.func188.trans (congrArg some (by kernel_rfl))
 f32 := Tryz.func189.trans (congrArg some (by kernel_rfl))
 f36 := ⟨Tryz.f220.name, by decide, Tryz.func220.trans (congrArg some (by kernel_rfl))⟩
 f37 := ⟨Tryz.f221.name, by decide, Tryz.func221.trans (congrArg some (by kernel_rfl))⟩
 f38 := ⟨Tryz.f222.name, by decide, Tryz.func222.trans (congrArg some (by kernel_rfl))⟩
 f39 := ⟨Tryz.f223.name, by decide, Tryz.func223.trans (congrArg some (by kernel_rfl))⟩
 f41 := ⟨Tryz.f228.name, by decide, Tryz.func228.trans (congrArg some (by kernel_rfl))⟩
 t0 := Tryz.underlying0
 a0 := Tryz.isAgg0
 z0 := Tryz.sizeOf0
 v0 := Tryz.zeroValue0
 t3 := Tryz.underlying3
 a3 := Tryz.isAgg3
 z3 := Tryz.sizeOf3
 v3 := Tryz.zeroValue3
 t4 := Tryz.underlying4
 a4 := Tryz.isAgg4
 z4 := Tryz.sizeOf4
 v4 := Tryz.zeroValue4
 t5 := Tryz.underlying5
 a5 := Tryz.isAgg5
 z5 := Tryz.sizeOf5
 v5 := Tryz.zeroValue5
 t9 := Tryz.underlying9
 a9 := Tryz.isAgg9
 z9 := Tryz.sizeOf9
 v9 := Tryz.zeroValue9
 t26 := Tryz.underlying144
 a26 := Tryz.isAgg144
 z26 := Tryz.sizeOf144
 v26 := Tryz.zeroValue144
 t27 := Tryz.underlying144
 a27 := Tryz.isAgg144
 z27 := Tryz.sizeOf144
 v27 := Tryz.zeroValue144
 t29 := Tryz.underlying9
 a29 := Tryz.isAgg9
 z29 := Tryz.sizeOf9
 v29 := Tryz.zeroValue9
 t32 := Tryz.underlying119
 a32 := Tryz.isAgg119
 z32 := Tryz.sizeOf119
 v32 := Tryz.zeroValue119
 t35 := Tryz.underlying175
 a35 := Tryz.isAgg175
 z35 := Tryz.sizeOf175
 v35 := Tryz.zeroValue175
 t36 := Tryz.underlying176
 a36 := Tryz.isAgg176
 z36 := Tryz.sizeOf176
 v36 := Tryz.zeroValue176
 t41 := Tryz.underlying76
 a41 := Tryz.isAgg76
 z41 := Tryz.sizeOf76
 v41 := Tryz.zeroValue76
 t44 := Tryz.underlying182
 a44 := Tryz.isAgg182
 z44 := Tryz.sizeOf182
 v44 := Tryz.zeroValue182
 t46 := Tryz.underlying184
 a46 := Tryz.isAgg184
 z46 := Tryz.sizeOf184
 v46 := Tryz.zeroValue184
 t53 := Tryz.underlying198
 a53 := Tryz.isAgg198
 z53 := Tryz.sizeOf198
 v53 := Tryz.zeroValue198
 t57 := Tryz.underlying202
 a57 := Tryz.isAgg202
 z57 := Tryz.sizeOf202
 v57 := Tryz.zeroValue202
 t63 := Tryz.underlying214
 a63 := Tryz.isAgg214
 z63 := Tryz.sizeOf214
 v63 := Tryz.zeroValue214
 t64 := Tryz.underlying165
 a64 := Tryz.isAgg165
 z64 := Tryz.sizeOf165
 v64 := Tryz.zeroValue165 }
end Go.Proofs
namespace Go.Proofs.YtalpnhfoaohhhaaGreat
section
open Go.RowKit Go.Maps Go.Sort Go.Shelf

theorem sorts_in (m : Nat) : AnyZ.SortsIn Tryz.prog Tryz.sortedM_ren Fence.wide m :=
 ⟨fun blk off cap ss W hH hblk hsz => callsIn_wide.2 (AnyM.slices_Sort_string Tryz.sortM blk off cap ss W hH hblk hsz),
 fun p cap W => callsIn_wide.2 (AnyM.slices_Sort_string_none Tryz.sortM p cap W)⟩
theorem keys_any (mb : Option Nat) (W : World) : Calls Tryz.prog 124 #[.map mb] W fun e w' => e = .returned (.func (.func 155) #[] #[.pointer (some ⟨W.heap.size, 0, none⟩)]) /\ w' = W.alloc (.cells #[.map mb] 143) :=
 (callsIn_wide (n := 5)).1 (AnyZ.keys_in Tryz.keysM Fence.wide 5 trivial rfl mb W)
def GivesSs (w w' : World) (e : Ending) (T : List (List UInt8)) : Prop := ∃ v, e = .returned v /\ w'.ownsRow w.heap.size 9 1 v T.length (T.map encStr) /\ Below w.heap.size w w'
theorem sortedKeys_any {H : Type} (b nn : Nat) (D0 : DataW H) (R : Value -> Option (DataW H × List MemPlace)) (w : World) (hown : w.ownsMap Tryz.prog 9 R b nn D0) (hmax : Maps.size D0 <= maxLen) (hbytes : Maps.size D0 * 16 <= 140737488355328) :
  Calls Tryz.prog 123 #[.func (.func 155) #[] #[.pointer (some ⟨w.heap.size, 0, none⟩)]] (w.alloc (.cells #[.map (some b)] 143)) fun e w' => ∃ ss : List (List UInt8), ss.Perm (strKeys D0) /\ GivesSs (w.alloc (.cells #[.map (some b)] 143)) w' e (ss.mergeSort leB) := by
 have hbl := hown.lt
 have hseq : SeqGives Fence.wide 2 Tryz.prog 155 #[.pointer (some ⟨w.heap.size, 0, none⟩)] encStr (fun ss => ss.Perm (strKeys D0)) (Maps.size D0) (w.alloc (.cells #[.map (some b)] 143)) :=
  AnyZ.keys_gives (ρ := Tryz.keysM_ren) { Tryz.keysM with } Fence.wide _ trivial rfl (by omega) w.heap.size b nn D0 _ (by simp) (by simp) (by
   obtain ⟨es, clock, hb, Ft, hs, hD⟩ := hown
   exact ⟨es, clock, (Below.heap_alloc _ _ b hbl).trans hb, Ft, hs, hD⟩)
 have h := AnyZ.sorted_in Tryz.sortedM Fence.wide 5 trivial trivial trivial trivial rfl (by omega) (sorts_in _) (enters_of Tryz.func154 (by kernel_rfl) rfl) 155 #[.pointer (some ⟨w.heap.size, 0, none⟩)] trivial (enters_of Tryz.func155 (by kernel_rfl) rfl) _ _ hmax hbytes _ hseq
 refine ((callsIn_wide (n := 5)).1 h).mono ?_
 rintro e w' ⟨v, ss, rfl, hS, hrow, _, hb⟩
 refine ⟨ss, hS, v, rfl, ?_, hb⟩
 have e1 : (ss.mergeSort leB).length = ss.length := (List.mergeSort_perm ss leB).length_eq
 rw [e1]
 exact hrow
end
section
open Go.RowKit

def mP (P : Pst) : Nat -> Int -> Prop := fun r n => mem (runsAt P r) n
def mOr (M M' : Nat -> Int -> Prop) : Nat -> Int -> Prop := fun r n => M r n ∨ M' r n
def mAnd (M M' : Nat -> Int -> Prop) : Nat -> Int -> Prop := fun r n => M r n /\ M' r n
def mNot (M M' : Nat -> Int -> Prop) : Nat -> Int -> Prop := fun r n => M r n /\ ¬ M' r n
def IsP (M : Nat -> Int -> Prop) (P : Pst) : Prop := ∃ C, CanonOf C P /\ ∀ r, r < 16 -> ∀ n, mem (C r) n ↔ M r n
def Eqv (M M' : Nat -> Int -> Prop) : Prop := ∀ r, r < 16 -> ∀ n, M r n ↔ M' r n
theorem isP_minus {a b : Pst} {P : Pst} (h : ∃ C : Nat -> List Rn, (∀ r, r < 16 -> MinusOf (runsAt a r) (runsAt b r) (C r)) /\ CanonOf C P) : IsP (mNot (mP a) (mP b)) P := by
 obtain ⟨C, hM, hC⟩ := h
 exact ⟨C, hC, fun r hr n => (hM r hr).2 n⟩
def SzP (M : Nat -> Int -> Prop) (z : Int) : Prop := ∃ N, (∀ r, r < 16 -> form 1 (N r) /\ ∀ n, Go.Proofs.YtalpnhfoaohhhaaGreat.mem (N r) n ↔ M r n) /\ z = sumZ N 16
theorem SzP.none : SzP (fun _ _ => False) 0 := ⟨fun _ => [], fun _ _ => ⟨trivial, fun n => ⟨fun h => mem_nil n h, fun h => h.elim⟩⟩, by decide⟩
end
section
open Go.RowKit Go.Maps Go.Sort
theorem OwnRc.setOther {B : Nat} {w W : World} {h : Hs} {L : List Rc} (O : OwnRc B w W h L) (g : Nat) (cs : Array Value) (hg : w.heap.size <= g) (hne : (HsV h).ownBlock ≠ some g) (hf : ∀ r ∈ L, PFar r.p g) : OwnRc B w (W.setRow g cs) h L := by
 have hs : (W.setRow g cs).heap.size = W.heap.size := by simp [World.setRow]
 have hk : ∀ q, q < W.heap.size -> some q ≠ some g -> (W.setRow g cs).heap[q]? = W.heap[q]? := fun q _ hq => setRow_other _ _ _ _ (fun e => hq (by rw [e]))
 have hG : W.grownBy (W.setRow g cs) (some g) := ⟨rfl, rfl, rfl, by omega, hk⟩
 exact ⟨O.own.kept hG (.inr hne), fun r hr => ⟨⟨psrc_keep (O.ok r hr).1.1 (fun k e => by obtain rfl := Option.some.inj e; exact hf r hr) hk, (O.ok r hr).1.2⟩, (O.ok r hr).2⟩, below_setRow O.below hg, O.hB.1, by have := O.hB.2; omega⟩
def ofS (R : List Rc) (s : ByteArray) : List Pv := (R.filter (fun r => decide (r.s = s))).map (fun r => r.p)
theorem ofS_len (R : List Rc) (s : ByteArray) : (ofS R s).length <= R.length := by unfold ofS; rw [List.length_map]; exact List.length_filter_le _ _
theorem ofS_snoc (R : List Rc) (r : Rc) (s : ByteArray) : pvs (ofS (R ++ [r]) s) = if s = r.s then pvs (ofS R s) ++ (PC r.p).toList else pvs (ofS R s) := by
 unfold ofS
 rw [List.filter_append, List.map_append, pvs_append]
 by_cases h : s = r.s
 ·subst h; simp [pvs_one]
 ·have h' : ¬ r.s = s := fun e => h e.symm
  simp [h, h', pvs]
theorem ofS_mem {R : List Rc} {s : ByteArray} {p : Pv} : p ∈ ofS R s ↔ ∃ r ∈ R, r.s = s /\ r.p = p := by
 unfold ofS
 rw [List.mem_map]
 constructor
 ·rintro ⟨r, hr, rfl⟩
  have := List.mem_filter.1 hr
  exact ⟨r, this.1, by simpa using this.2, rfl⟩
 ·rintro ⟨r, hr, hs, rfl⟩
  exact ⟨r, List.mem_filter.2 ⟨hr, by simpa using hs⟩, rfl⟩
theorem runsOf_mem (X : List Pv) (r : Nat) (n : Int) : mem (runsOf X r) n ↔ ∃ p ∈ X, mem (runsAt p.P r) n := by
 induction X with
 | nil => simp [runsOf, mem]
 | cons p X ih =>
  have e : runsOf (p :: X) r = runsAt p.P r ++ runsOf X r := rfl
  rw [e, mem_append, ih]
  simp
def nilF : ByteArray := ⟨#[]⟩
def FoldM (R : List Rc) (s : ByteArray) (r : Nat) (n : Int) : Prop := (∃ x ∈ R, x.s = s /\ mem (runsAt x.p.P r) n) /\ (s ≠ nilF -> ¬ ∃ x ∈ R, x.s = nilF /\ mem (runsAt x.p.P r) n)
theorem join_all {R : List Rc} {s : ByteArray} {P : Pst} (h : CanonOf (runsOf (ofS R s)) P) (r : Nat) (hr : r < 16) (n : Int) : mem (runsAt P r) n ↔ ∃ x ∈ R, x.s = s /\ mem (runsAt x.p.P r) n := by
 rw [canon_mem h r hr n, runsOf_mem]
 constructor
 ·rintro ⟨p, hp, hm⟩
  obtain ⟨x, hx, hs, rfl⟩ := ofS_mem.1 hp
  exact ⟨x, hx, hs, hm⟩
 ·rintro ⟨x, hx, hs, hm⟩
  exact ⟨x.p, ofS_mem.2 ⟨x, hx, hs, rfl⟩, hm⟩
theorem fold_nil {R : List Rc} {P : Pst} (h : CanonOf (runsOf (ofS R nilF)) P) : IsP (FoldM R nilF) P :=
 ⟨_, h, fun r hr n => by
  rw [<- canon_mem h r hr n, join_all h r hr n]
  exact ⟨fun h => ⟨h, fun e => absurd rfl e⟩, fun h => h.1⟩⟩
theorem fold_sku {R : List Rc} {s : ByteArray} {P A M : Pst} (hs : s ≠ nilF) (h : CanonOf (runsOf (ofS R s)) P) (ha : CanonOf (runsOf (ofS R nilF)) A) (hm : ∃ C : Nat -> List Rn, (∀ r, r < 16 -> MinusOf (runsAt P r) (runsAt A r) (C r)) /\ CanonOf C M) : IsP (FoldM R s) M := by
 obtain ⟨C, hC, hI⟩ := isP_minus hm
 refine ⟨C, hC, fun r hr n => (hI r hr n).trans ?_⟩
 show mem (runsAt P r) n /\ ¬ mem (runsAt A r) n ↔ _
 rw [join_all h r hr n, join_all ha r hr n]
 exact ⟨fun h => ⟨h.1, fun _ => h.2⟩, fun h => ⟨h.1, h.2 hs⟩⟩
def FoldOf (R F : List Rc) : Prop := F.Pairwise (fun a b => cmpS a.s b.s < 0) /\ (∀ x ∈ F, (∃ r ∈ R, r.s = x.s) /\ IsP (FoldM R x.s) x.p.P /\ ¬ EmptyP x.p.P) /\ ∀ s, (∃ r ∈ R, r.s = s) -> (∀ x ∈ F, x.s ≠ s) -> ∀ r, r < 16 -> ∀ n, ¬ FoldM R s r n
def FPre (R : List Rc) (T : List (List UInt8)) (F : List Rc) : Prop := (F.map (fun x => x.s.data.toList)).Sublist T /\ (∀ x ∈ F, IsP (FoldM R x.s) x.p.P /\ ¬ EmptyP x.p.P) /\ ∀ t ∈ T, (∀ x ∈ F, x.s ≠ ⟨t.toArray⟩) -> ∀ r, r < 16 -> ∀ n, ¬ FoldM R ⟨t.toArray⟩ r n
theorem FPre.start (R : List Rc) : FPre R [] [] := ⟨List.Sublist.refl _, fun x h => (by cases h), fun t h => (by cases h)⟩
theorem FPre.skip {R F : List Rc} {T : List (List UInt8)} (h : FPre R T F) (t : List UInt8) (he : ∀ r, r < 16 -> ∀ n, ¬ FoldM R ⟨t.toArray⟩ r n) : FPre R (T ++ [t]) F := by
 refine ⟨h.1.trans (List.sublist_append_left _ _), h.2.1, fun u hu hn => ?_⟩
 rcases List.mem_append.1 hu with hu | hu
 ·exact h.2.2 u hu hn
 ·obtain rfl : u = t := by simpa using hu
  exact he
theorem FPre.add {R F : List Rc} {T : List (List UInt8)} (h : FPre R T F) (t : List UInt8) (x : Rc) (hx : x.s = ⟨t.toArray⟩) (hI : IsP (FoldM R x.s) x.p.P) (hE : ¬ EmptyP x.p.P) : FPre R (T ++ [t]) (F ++ [x]) := by
 refine ⟨?_, fun y hy => ?_, fun u hu hn => ?_⟩
 ·rw [List.map_append]
  refine h.1.append ?_
  simp [hx]
 ·rcases List.mem_append.1 hy with hy | hy
  ·exact h.2.1 y hy
  ·obtain rfl : y = x := by simpa using hy
   exact ⟨hI, hE⟩
 ·rcases List.mem_append.1 hu with hu | hu
  ·exact h.2.2 u hu (fun y hy => hn y (List.mem_append_left _ hy))
  ·obtain rfl : u = t := by simpa using hu
   exact absurd hx (hn x (by simp))
theorem FPre.done {R F : List Rc} {T : List (List UInt8)} (h : FPre R T F) (hT : T.Pairwise (fun a b => Lib.compareBytes a b < 0)) (hK : ∀ t, t ∈ T ↔ ∃ r ∈ R, r.s = ⟨t.toArray⟩) : FoldOf R F := by
 refine ⟨List.pairwise_map.1 (hT.sublist h.1), fun x hx => ⟨?_, h.2.1 x hx⟩, fun s hs hn => ?_⟩
 ·have := (hK x.s.data.toList).1 (h.1.subset (List.mem_map.2 ⟨x, hx, rfl⟩))
  simpa using this
 ·have hm : s.data.toList ∈ T := (hK _).2 (by simpa using hs)
  have := h.2.2 _ hm (by simpa using hn)
  simpa using this
end
end Go.Proofs.YtalpnhfoaohhhaaGreat
