/- ROs RWi PWi -/
import Derived.Test.YtalcmdjiejhkgaaGreatKw37
import Derived.Test.YtalcmdjiejhkgaaGreatKw20
import Derived.Deep.RegionHeld3
set_option maxRecDepth 100000
set_option maxHeartbeats 4000000
namespace Go.Proofs.YtalcmdjiejhkgaaGreat
section
open Go.RowKit
attribute [local go_sem ↓] ldR_eq stR_eq
attribute [local go_sem] zero_RC cells_RV RC_size fold_RC build_RC
theorem OwnR.append2 {B0 B : Nat} {w w' : World} {ao : Option Addr} {cap : Nat} {acc : List Rn} (O : OwnR B0 B w w' ao cap acc) (e : Rn) (C : Array Value) (hC : C = RC e) (hlen : acc.length < 8796093022207)
  {ops : Array Oper} {rest : List Oper} {o : Oper} {a : Act} {Q : Exit -> Act -> World -> Prop} (hgd : o.guard = none) (s x : Operand) (ho : o.op = .call { callee := .builtin .append, args := #[s, x], argTypes := #[67, 67] })
  (n : Nat) (hn : acc.length = n) (hs : a.eval s = .slice ao n cap) (hx : a.eval x = .slice (some ⟨w'.heap.size, 0, none⟩) 1 1)
  (hK : ∀ (g cap2 : Nat) (w2 : World), OwnR B0 B w w2 (some ⟨g, 0, none⟩) cap2 (acc ++ [e]) -> (∀ k, k < w'.heap.size -> (∀ ad, ao = some ad -> ad.block ≠ k) -> w2.heap[k]? = w'.heap[k]?) -> wpList Tryz.prog ops Q rest (a.put o.dst (.slice (some ⟨g, 0, none⟩) (n + 1) cap2)) w2) :
  wpList Tryz.prog ops Q (o :: rest) a (w'.alloc (.cells C 107)) := by
 subst hn hC
 obtain ⟨i0, hi, hz0, hz1, hz2⟩ := info_parts infoR
 have hB := O.hB
 have hB0 := O.hB0
 refine wpList_append_own _ hgd s x 67 ho B 107 i0 (.agg #[.int .i64 0, .int .i64 0]) 2 16 Tryz.underlying67 hi hz0 hz1 hz2 rfl (by decide) _ acc.length (rcs acc) hs (O.own.alloc _) ⟨w'.heap.size, 0, none⟩ 1 1 (RC e).toList hx (by simp [RC]) ?_ ?_ (by unfold maxLen; omega) (by omega) (by simp; omega) ?_
 ·intro j u hj
  rw [Addr.add_lit, Nat.zero_add, World.cell?_alloc_new]
  simpa using hj
 ·intro u hu
  exact RC_one e u hu
 ·intro v' w2 hown hgrow _
  rcases hown.2 with ⟨h0, h00⟩ | ⟨g, cap2, cur, hv, r⟩
  ·omega
  ·subst hv
   have hrow : ∀ k, (Value.slice ao acc.length cap).ownBlock = some k -> B <= k := fun k hk => (O.own.lt k hk).1
   have hsz := hgrow.size
   rw [World.size_alloc] at hsz
   refine hK g cap2 w2 ⟨?_, (O.below.alloc (by omega) _).grown hgrow (by simp; omega) (fun k hk => by have := hrow k hk; omega), by omega, hB0⟩ (fun k hk hne => ?_)
   ·rw [List.length_append, rcs_append, rcs_one]; exact hown
   ·rw [hgrow.block k (by simp; omega) (fun e => by
     cases ao with
     | none => simp [Value.ownBlock] at e
     | some ad => simp [Value.ownBlock] at e; exact hne ad rfl e.symm)]
    exact Below.heap_alloc _ _ _ (by omega)
theorem OwnR.under {B0 B : Nat} {w w' : World} {ao : Option Addr} {cap : Nat} {acc : List Rn} (O : OwnR B0 B w w' ao cap acc) : ∀ ad, ao = some ad -> ad.block < w'.heap.size := fun ad h => by
 subst h
 exact (O.own.lt ad.block (by simp [Value.ownBlock])).2
theorem cell_kept {w w2 : World} {a : Addr} (h : w2.heap[a.block]? = w.heap[a.block]?) : w2.cell? a = w.cell? a := by
 unfold World.cell?; rw [h]

theorem spanOut_any (ao : Option Addr) (n cap : Nat) (A : List Rn) (w : World) (hS : RSrc w ao n cap A) :
  Calls Tryz.prog 103 #[.slice ao n cap] w fun e w' => GivesR w w' e (OutOf A) := by
 have HS := hide hS
 clear hS
 go_enter Tryz.func103, Tryz.ntmps103
 go_wp2_with fail
 refine (norm_any ao n cap A _ HS.out).mono ?_
 rintro e w1 ⟨a1, n1, c1, X, rfl, S1, b1, p1⟩
 have HS1 := hide S1
 have HP1 := hide p1
 have HB1 := hide b1
 have HL : Hid (X.length = n1) := S1.len
 have hn := S1.big
 clear S1 b1 p1
 go_wp2_with fail
 go_loopw [3, 4, 6, 10] (fun o v _ i wr => ∃ (k : Nat) (nx : Int) (ap : Option Addr) (c : Nat) (acc : List Rn), k <= n1 /\ o = .slice ap acc.length c /\ v = .int .i64 nx /\ i = .int .i64 k /\ Hid (OtInv (X.take k) (X.drop k) acc nx /\ OwnR w1.heap.size w1.heap.size w1 wr ap c acc)) (fun _ _ _ i _ => n1 - (intOf i).toNat)
 case atStart => exact ⟨0, 1, none, 0, [], Nat.zero_le _, rfl, rfl, rfl, OtInv.start HP1.out.1, OwnR.nil (Below.refl _ _) (Nat.le_refl _) (Nat.le_refl _)⟩
 case round =>
  obtain ⟨k, nx, ap, c, acc, hk, rfl, rfl, rfl, H⟩ := hrel
  rename World => w4
  have hal := form_small (Int.le_refl _) H.out.1.frm
  by_cases hlt : k < n1
  ·obtain ⟨ad, rfl, A0⟩ := (HS1.out.below H.out.2.below).at k hlt
   have hld := run_ldR A0
   obtain ⟨r, Hr⟩ : ∃ r, Hid (X.getD k rn0 = r) := ⟨_, rfl⟩
   rw [Hr.out] at hld
   have hkl : k < X.length := by rw [HL.out]; exact hlt
   have hgk : X[k] = r := by rw [<- Hr.out]; simp [List.getD, hkl]
   have HD : Hid (X.drop k = r :: X.drop (k + 1)) := by show _ = _; rw [List.drop_eq_getElem_cons hkl, hgk]
   have HT : Hid (X.take (k + 1) = X.take k ++ [r]) := by show _ = _; rw [List.take_succ_eq_append_getElem hkl, hgk]
   have I0 := H.out.1
   rw [HD.out] at I0
   have HI := hide I0
   have HN := hide I0.step
   rw [<- HT.out] at HN
   have f1 := I0.rest.1
   have f2 := I0.rest.2.1
   have f3 := I0.rest.2.2.1
   have f4 := I0.lo
   clear I0 hgk hkl
   obtain ⟨w5, hst, X5, B5, Z5⟩ := made w4 r w4.heap.size rfl
   have HO5 := hide (H.out.2.later B5)
   have c0 := X5.at.c0
   have k1 : w5.cell? ⟨w4.heap.size, 1, none⟩ = some (.int .i64 r.hi) := X5.at.c1
   have HX5 := hide X5
   have hu := H.out.2.under
   have HU : Hid (∀ ad, ap = some ad -> ad.block ≠ w4.heap.size) := fun ad h => by have := hu ad h; omega
   have HW : Hid (w4.heap.size < w5.heap.size) := X5.lt
   clear A0 X5 B5 Z5 hu
   have hs1 : IntKind.i64.wrap (r.lo - 1) = r.lo - 1 := by rw [IntKind.wrap_i64]; omega
   have hs2 : IntKind.i64.wrap (r.hi + 1) = r.hi + 1 := by rw [IntKind.wrap_i64]; omega
   by_cases hc : nx < r.lo
   ·have HM : Hid (outs acc nx r.lo = acc ++ [⟨nx, r.lo - 1⟩]) := by show _ = _; unfold outs; rw [if_pos hc]
    rw [HM.out] at HN
    go_wp2_with (at_builtin; refine HO5.out.append2 ⟨nx, r.lo - 1⟩ _ rfl (by omega) rfl (.tmp 18) (.tmp 24) rfl acc.length rfl rfl rfl ?_; intro g6 c6 w6 O6 K6; have k6 : w6.cell? ⟨w4.heap.size, 1, none⟩ = some (.int .i64 r.hi) := (cell_kept (K6 _ HW.out HU.out)).trans k1; clear K6)
    go_roundw
    case rel => exact ⟨k + 1, r.hi + 1, some ⟨g6, 0, none⟩, c6, acc ++ [⟨nx, r.lo - 1⟩], by omega, by simp, by go_num, by go_num, HN.out, O6⟩
    case measure => simp [intOf]; omega
   ·have HM : Hid (outs acc nx r.lo = acc) := by show _ = _; unfold outs; rw [if_neg hc]
    rw [HM.out] at HN
    go_wp2_with fail
    go_roundw
    case rel => exact ⟨k + 1, r.hi + 1, ap, c, acc, by omega, rfl, by go_num, by go_num, HN.out, HO5.out⟩
    case measure => simp [intOf]; omega
  ·obtain rfl : k = n1 := by omega
   have HT : Hid (X.take k = X /\ X.drop k = []) := ⟨List.take_of_length_le (by rw [HL.out]; exact Nat.le_refl _), List.drop_eq_nil_of_le (by rw [HL.out]; exact Nat.le_refl _)⟩
   have I0 := H.out.1
   rw [HT.out.1, HT.out.2] at I0
   have HD := hide (I0.done HP1.out)
   have f4 := I0.lo
   have f5 := I0.hi
   clear I0
   by_cases hc : nx <= 1000000000
   ·have HM : Hid (outs acc nx 1000000001 = acc ++ [⟨nx, 1000000000⟩]) := by show _ = _; unfold outs; rw [if_pos (by omega)]; rfl
    rw [HM.out] at HD
    have HO4 := hide H.out.2
    go_wp2_with (at_builtin; refine HO4.out.append ⟨nx, 1000000000⟩ _ rfl (by omega) rfl (.tmp 32) (.tmp 35) rfl acc.length rfl rfl rfl ?_; intro g6 c6 w6 O6)
    obtain ⟨S6, F6⟩ := O6.src (by simp; omega)
    have HN : Hid (GivesR w w6 (.returned (.slice (some ⟨g6, 0, none⟩) (acc.length + 1) c6)) (OutOf A)) := ⟨_, _, c6, _, rfl, by simpa using S6, HB1.out.trans (O6.below.mono HB1.out.size), HD.out⟩
    clear S6 F6 O6
    go_ret
    exact HN.out
   ·have HM : Hid (outs acc nx 1000000001 = acc) := by show _ = _; unfold outs; rw [if_neg (by omega)]
    rw [HM.out] at HD
    obtain ⟨S4, F4⟩ := H.out.2.src (by omega)
    have HN : Hid (GivesR w w4 (.returned (.slice ap acc.length c)) (OutOf A)) := ⟨ap, acc.length, c, acc, rfl, S4, HB1.out.trans (H.out.2.below.mono HB1.out.size), HD.out⟩
    clear S4 F4
    go_wp2_with fail
    go_ret
    exact HN.out
theorem minus_new (ao bo : Option Addr) (n cap m cap' : Nat) (A B : List Rn) (w : World) (hS : RSrc w ao n cap A) (hR : RSrc w bo m cap' B) :
  Calls Tryz.prog 67 #[.slice ao n cap, .slice bo m cap'] w fun e w' => GivesRN w w' e (MinusOf A B) := by
 have HS := hide hS
 have HR := hide hR
 clear hS hR
 go_enter Tryz.func67, Tryz.ntmps67
 go_wp2_with fail
 refine (spanOut_any bo m cap' B _ HR.out).mono ?_
 rintro e w1 ⟨a1, n1, c1, O, rfl, S1, b1, p1⟩
 have HS1 := hide S1
 have HP1 := hide p1
 have HB1 := hide b1
 clear S1 b1 p1
 go_wp2_with fail
 refine (meet_new ao a1 n cap n1 c1 A O _ (HS.out.below HB1.out) HS1.out).mono ?_
 rintro e w2 ⟨a2, n2, c2, R, rfl, S2, b2, f2, p2⟩
 have HF : Hid (GivesRN w w2 (.returned (.slice a2 n2 c2)) (MinusOf A B)) := ⟨a2, n2, c2, R, rfl, S2, HB1.out.trans (b2.mono HB1.out.size), (fun ad h => Nat.le_trans HB1.out.size (f2 ad h)), minus_of HP1.out p2⟩
 clear S2 b2 f2 p2
 go_wp2_with fail
 go_ret
 exact HF.out
theorem minus_any (ao bo : Option Addr) (n cap m cap' : Nat) (A B : List Rn) (w : World) (hS : RSrc w ao n cap A) (hR : RSrc w bo m cap' B) :
  Calls Tryz.prog 67 #[.slice ao n cap, .slice bo m cap'] w fun e w' => GivesR w w' e (MinusOf A B) := (minus_new ao bo n cap m cap' A B w hS hR).mono fun _ _ h => h.gives
end
section
open Go.RowKit
attribute [local go_sem ↓] ldR_eq stR_eq
attribute [local go_sem] zero_RC cells_RV RC_size fold_RC build_RC
def Wth (A B : List Rn) (b : Bool) : Prop := b = true ↔ ∀ n, mem A n -> mem B n
theorem minus_nil {A B R : List Rn} (h : MinusOf A B R) : R.length = 0 ↔ ∀ n, mem A n -> mem B n := by
 constructor
 ·intro e n ha
  have : R = [] := List.eq_nil_of_length_eq_zero e
  subst this
  exact Classical.byContradiction fun hb => mem_nil n ((h.2 n).2 ⟨ha, hb⟩)
 ·intro e
  have : R = [] := form_empty (Int.le_refl _) h.1 (fun n hn => by have := (h.2 n).1 hn; exact this.2 (e n this.1))
  rw [this]; rfl
theorem within_any (ao bo : Option Addr) (n cap m cap' : Nat) (A B : List Rn) (w : World) (hS : RSrc w ao n cap A) (hR : RSrc w bo m cap' B) :
  Calls Tryz.prog 42 #[.slice ao n cap, .slice bo m cap'] w fun e w' => ∃ b, e = .returned (.bool b) /\ Wth A B b /\ Below w.heap.size w w' := by
 have HS := hide hS
 have HR := hide hR
 clear hS hR
 go_enter Tryz.func42, Tryz.ntmps42
 go_wp2_with fail
 refine (minus_any ao bo n cap m cap' A B _ HS.out HR.out).mono ?_
 rintro e w1 ⟨a1, n1, c1, R, rfl, S1, b1, p1⟩
 have HN := hide (minus_nil p1)
 rw [S1.len] at HN
 have HB1 := hide b1
 clear S1 b1 p1
 go_wp2_with fail
 go_ret
 refine ⟨_, rfl, ?_, HB1.out⟩
 unfold Wth
 rw [<- HN.out]
 simp
end
section
open Go.RowKit
attribute [local go_sem ↓] ldP_eq stP_eq ldA_eq stA_eq
attribute [local go_sem] zeros_SA cells_SAv zero_PC cells_PV fold_PC PC_size fold_PC1
theorem zeros_sl : (SA fun _ => sl0) = SA sl00 := rfl
attribute [local go_sem] zeros_sl
theorem pastWithin_any (a b : Pv) (w : World) (hA : PSrc w a) (hB : PSrc w b) :
  Calls Tryz.prog 17 #[PV a, PV b] w fun e w' => ∃ x, e = .returned (.bool x) /\ (x = true ↔ ∀ r, r < 16 -> ∀ n, mem (runsAt a.P r) n -> mem (runsAt b.P r) n) /\ Below w.heap.size w w' := by
 have b1 := below_new w (.cells (PC a) 27)
 have b2 := below_new (w.alloc (.cells (PC a) 27)) (.cells (PC b) 27)
 have p2 := pbox_new (w.alloc (.cells (PC a) 27)) b
 rw [World.size_alloc] at p2
 have HPA := hide ((pbox_new w a).below b2)
 have HPB := hide p2
 have HBK := hide (b1.trans (b2.mono b1.size))
 have HWA := hide (wt_one hA)
 have HWB := hide (wt_one hB)
 have HSA := hide (hA.below HBK.out)
 have HSB := hide (hB.below HBK.out)
 have HZK : Hid (((w.alloc (.cells (PC a) 27)).alloc (.cells (PC b) 27)).heap.size = w.heap.size + 2) := by show _ = _; simp
 clear hA hB b1 b2 p2
 obtain ⟨wk, Hwk⟩ : ∃ wk, Hid (((w.alloc (.cells (PC a) 27)).alloc (.cells (PC b) 27)) = wk) := ⟨_, rfl⟩
 rw [Hwk.out] at HPA HPB HBK HSA HSB HZK
 go_enter Tryz.func17, Tryz.ntmps17
 go_wp2_with fail
 rw [Hwk.out]
 clear Hwk
 refine wp_region_inv (by kernel_rfl) (fun l x W => ∃ va xa ca vb xb cb ba bb, x = { tmps := #[PV a, PV b, ptr w.heap.size, ptr (w.heap.size + 1), Value.bool false, ba, bb, undef, va, xa, ca, vb, xb, cb, undef, undef, undef, undef, undef, undef, undef, undef, undef, undef, undef, undef], defers := [] } /\ TwoI wk a b l W va xa ca vb xb cb ba bb) ⟨undef, undef, undef, undef, undef, undef, undef, undef, rfl, TwoI.start wk a b _ _ _ _ _ _ _ _⟩ ?_ ?_ ?_
 ·rintro l x W ⟨va, xa, ca, vb, xb, cb, ba, bb, rfl, T⟩
  exact T.sz
 ·rintro l x W ⟨va, xa, ca, vb, xb, cb, ba, bb, rfl, T⟩ i hi
  obtain ⟨hi1, hi2, hi3⟩ := ready_mem hi
  have hi4 := no_true hi2
  have hc : i = 0 ∨ i = 1 ∨ i = 2 ∨ i = 3 ∨ i = 4 ∨ i = 5 ∨ i = 6 ∨ i = 7 ∨ i = 8 ∨ i = 9 := by have h : i < 10 := hi1; omega
  have HT := hide T
  rcases hc with rfl | rfl | rfl | rfl | rfl | rfl | rfl | rfl | rfl | rfl
  ·have l1 := run_ldP (HPA.out.below T.b).at
   clear T
   clear hi hi1 hi2 hi3 hi4
   refine wpOp_step (o := ⟨some 8, .load 27 (.tmp 2), 27, "sets.go:31", #[], none⟩) rfl (fun K hK => ?_)
   go_simp
   exact hK _ _ ⟨PV a, xa, ca, vb, xb, cb, ba, bb, rfl, HT.out.s0⟩
  ·have d0 := hi3 _ rfl { on := 0, ground := Ground.data } (by simp) rfl
   obtain rfl := T.h0 d0
   clear T d0
   clear hi hi1 hi2 hi3 hi4
   refine wpOp_step (o := ⟨some 9, .buildSlice 59 1 #[(0, .tmp 8)], 59, "sets.go:31", #[⟨0, .data⟩], none⟩) rfl (fun K hK => ?_)
   go_simp
   exact hK _ _ ⟨_, .slice (some ⟨W.heap.size, 0, none⟩) 1 1, ca, vb, xb, cb, ba, bb, rfl, HT.out.s1 (HSA.out.below HT.out.b)⟩
  ·have d1 := hi3 _ rfl { on := 1, ground := Ground.data } (by simp) rfl
   have n8 : l.getD 8 false = false := by
    cases e : l.getD 8 false with
    | false => rfl
    | true => have := HT.out.c8 e; simp [hi4] at this
   obtain ⟨g, rfl, R⟩ := T.h1 d1 n8
   have HR := hide R
   have HN8 := hide n8
   clear T d1 R n8
   clear hi hi1 hi2 hi3 hi4
   refine wpOp_step (o := ⟨some 10, .call ⟨.value (.func 37), #[.tmp 9], #[59]⟩, 69, "sets.go:31", #[⟨1, .data⟩], none⟩) rfl (fun K hK => ?_)
   go_simp
   go_wp2_with fail
   refine (setsOf_any _ 1 1 [a] _ HR.out HWA.out (by omega)).mono ?_
   rintro e w' ⟨F, rfl, RF, bF⟩
   exact hK _ _ ⟨va, _, SAv F, vb, xb, cb, ba, bb, rfl, HT.out.s2 HN8.out RF bF⟩
  ·have l1 := run_ldP (HPB.out.below T.b).at
   clear T
   clear hi hi1 hi2 hi3 hi4
   refine wpOp_step (o := ⟨some 11, .load 27 (.tmp 3), 27, "sets.go:31", #[], none⟩) rfl (fun K hK => ?_)
   go_simp
   exact hK _ _ ⟨va, xa, ca, PV b, xb, cb, ba, bb, rfl, HT.out.s3⟩
  ·have d3 := hi3 _ rfl { on := 3, ground := Ground.data } (by simp) rfl
   obtain rfl := T.h3 d3
   clear T d3
   clear hi hi1 hi2 hi3 hi4
   refine wpOp_step (o := ⟨some 12, .buildSlice 59 1 #[(0, .tmp 11)], 59, "sets.go:31", #[⟨3, .data⟩], none⟩) rfl (fun K hK => ?_)
   go_simp
   exact hK _ _ ⟨va, xa, ca, _, .slice (some ⟨W.heap.size, 0, none⟩) 1 1, cb, ba, bb, rfl, HT.out.s4 (HSB.out.below HT.out.b)⟩
  ·have d4 := hi3 _ rfl { on := 4, ground := Ground.data } (by simp) rfl
   have d2 := hi3 _ rfl { on := 2, ground := Ground.chain } (by simp) rfl
   have n8 : l.getD 8 false = false := by
    cases e : l.getD 8 false with
    | false => rfl
    | true => have := HT.out.c8 e; simp [hi4] at this
   have n9 : l.getD 9 false = false := by
    cases e : l.getD 9 false with
    | false => rfl
    | true => have := HT.out.c9 e; simp [hi4] at this
   obtain ⟨g, rfl, R⟩ := T.h4 d4 n8
   have HR := hide R
   have HN9 := hide n9
   clear T d4 d2 R n8 n9
   clear hi hi1 hi2 hi3 hi4
   refine wpOp_step (o := ⟨some 13, .call ⟨.value (.func 37), #[.tmp 12], #[59]⟩, 69, "sets.go:31", #[⟨4, .data⟩, ⟨2, .chain⟩], none⟩) rfl (fun K hK => ?_)
   go_simp
   go_wp2_with fail
   refine (setsOf_any _ 1 1 [b] _ HR.out HWB.out (by omega)).mono ?_
   rintro e w' ⟨F, rfl, RF, bF⟩
   exact hK _ _ ⟨va, xa, ca, vb, _, SAv F, ba, bb, rfl, HT.out.s5 HN9.out RF bF⟩
  ·have n8 : l.getD 8 false = false := by
    cases e : l.getD 8 false with
    | false => rfl
    | true => have := HT.out.c8 e; simp [hi4] at this
   have HN8 := hide n8
   clear T n8
   clear hi hi1 hi2 hi3 hi4
   refine wpOp_step (o := ⟨some 5, .alloc 69, 0, "sets.go:31", #[], none⟩) rfl (fun K hK => ?_)
   go_simp
   exact hK _ _ ⟨va, xa, ca, vb, xb, cb, ptr W.heap.size, bb, rfl, HT.out.s6 HN8.out⟩
  ·have n9 : l.getD 9 false = false := by
    cases e : l.getD 9 false with
    | false => rfl
    | true => have := HT.out.c9 e; simp [hi4] at this
   have HN9 := hide n9
   clear T n9
   clear hi hi1 hi2 hi3 hi4
   refine wpOp_step (o := ⟨some 6, .alloc 69, 0, "sets.go:31", #[], none⟩) rfl (fun K hK => ?_)
   go_simp
   exact hK _ _ ⟨va, xa, ca, vb, xb, cb, ba, ptr W.heap.size, rfl, HT.out.s7 HN9.out⟩
  ·have d2 := hi3 _ rfl { on := 2, ground := Ground.data } (by simp) rfl
   have d5 := hi3 _ rfl { on := 5, ground := Ground.chain } (by simp) rfl
   have d6 := hi3 _ rfl { on := 6, ground := Ground.data } (by simp) rfl
   have d7 := hi3 _ rfl { on := 7, ground := Ground.phase } (by simp) rfl
   obtain ⟨F, g, rfl, rfl, ST, T2⟩ := T.s8 d2 d5 d6 d7 hi4
   have s1 := run_stA (F' := F) ST
   have HT2 := hide T2
   clear T T2 ST d2 d5 d6 d7
   clear hi hi1 hi2 hi3 hi4
   refine wpOp_step (o := ⟨none, .store 69 (.tmp 5) (.tmp 10), 0, "sets.go:31", #[⟨6, .data⟩, ⟨2, .data⟩, ⟨5, .chain⟩, ⟨0, .phase⟩, ⟨1, .phase⟩, ⟨2, .phase⟩, ⟨3, .textOnly .lateStores⟩, ⟨4, .textOnly .lateStores⟩, ⟨5, .textOnly .lateStoresUnsure⟩, ⟨6, .phase⟩, ⟨7, .phase⟩], none⟩) rfl (fun K hK => ?_)
   go_simp
   exact hK _ _ ⟨va, xa, _, vb, xb, cb, _, bb, rfl, HT2.out⟩
  ·have d5 := hi3 _ rfl { on := 5, ground := Ground.data } (by simp) rfl
   have d7 := hi3 _ rfl { on := 7, ground := Ground.data } (by simp) rfl
   have d8 := hi3 _ rfl { on := 8, ground := Ground.chain } (by simp) rfl
   obtain ⟨F, g, rfl, rfl, ST, T2⟩ := T.s9 d5 d7 d8 hi4
   have s1 := run_stA (F' := F) ST
   have HT2 := hide T2
   clear T T2 ST d5 d7 d8
   clear hi hi1 hi2 hi3 hi4
   refine wpOp_step (o := ⟨none, .store 69 (.tmp 6) (.tmp 13), 0, "sets.go:31", #[⟨7, .data⟩, ⟨5, .data⟩, ⟨8, .chain⟩, ⟨0, .phase⟩, ⟨1, .phase⟩, ⟨2, .phase⟩, ⟨3, .phase⟩, ⟨4, .phase⟩, ⟨5, .phase⟩, ⟨6, .phase⟩, ⟨7, .phase⟩, ⟨8, .phase⟩], none⟩) rfl (fun K hK => ?_)
   go_simp
   exact hK _ _ ⟨va, xa, ca, vb, xb, _, ba, _, rfl, HT2.out⟩
 ·rintro l x W ⟨va, xa, ca, vb, xb, cb, ba, bb, rfl, T⟩ hnil
  obtain ⟨F, G, g, g', rfl, rfl, rfl, rfl, rfl, rfl, hgg, hg1, hg2, hs1, hs2, hr1, hr2, hf1, hf2, hbw⟩ := T.all (fun i hi => ready_done (by kernel_rfl) T.sz hnil i hi)
  have HGG := hide hgg
  have HG1 := hide hg1
  have HG2 := hide hg2
  have HS1 := hide hs1
  have HS2 := hide hs2
  have HR1 := hide hr1
  have HR2 := hide hr2
  have HF1 := hide hf1
  have HF2 := hide hf2
  have HBW := hide hbw
  clear T hnil hgg hg1 hg2 hs1 hs2 hr1 hr2 hf1 hf2 hbw
  rename World => w5
  have HB5 := hide (HBK.out.trans (HBW.out.mono HBK.out.size))
  go_wp2_with fail
  go_loopw [14] (fun i wr => ∃ k : Nat, k <= 16 /\ i = .int .i64 k /\ Hid (∀ r, r < k -> ∀ n, mem (runsAt a.P r) n -> mem (runsAt b.P r) n) /\ Hid (Below w5.heap.size w5 wr)) (fun i _ => 16 - (intOf i).toNat)
  case atStart => exact ⟨0, Nat.zero_le _, rfl, fun r h => by omega, Below.refl _ _⟩
  case round =>
   obtain ⟨k, hk, rfl, HM, HB⟩ := hrel
   rename World => w6
   have HBB := hide (HB5.out.trans (HB.out.mono HB5.out.size))
   by_cases hlt : k < 16
   ·have k1 := cell_regrown ((HS1.out.below HB.out).cell k hlt)
    have k2 := cell_regrown ((HS2.out.below HB.out).cell k hlt)
    have R1 := (HR1.out.src k hlt).below HB.out
    have R2 := (HR2.out.src k hlt).below HB.out
    have e1 := HR1.out.eq k hlt
    have e2 := HR2.out.eq k hlt
    rw [runsOf_one] at e1 e2
    rw [e1] at R1
    rw [e2] at R2
    clear e1 e2
    obtain ⟨sa, sn, sc, hf⟩ : ∃ sa sn sc, (F k).ao = sa /\ (F k).n = sn /\ (F k).cap = sc := ⟨_, _, _, rfl, rfl, rfl⟩
    obtain ⟨ta, tn, tc, hg⟩ : ∃ ta tn tc, (G k).ao = ta /\ (G k).n = tn /\ (G k).cap = tc := ⟨_, _, _, rfl, rfl, rfl⟩
    rw [hf.1, hf.2.1, hf.2.2] at k1 R1
    rw [hg.1, hg.2.1, hg.2.2] at k2 R2
    clear hf hg
    obtain ⟨y, Hy⟩ : ∃ y : Bool, Hid (y = true ↔ ∀ n, mem (runsAt a.P k) n -> mem (runsAt b.P k) n) := by
     by_cases h : ∀ n, mem (runsAt a.P k) n -> mem (runsAt b.P k) n
     ·exact ⟨true, ⟨fun _ => h, fun _ => rfl⟩⟩
     ·exact ⟨false, ⟨(fun h' => by cases h'), fun h' => absurd h' h⟩⟩
    have zc : ∀ d os, Calls Tryz.prog 42 #[.slice sa sn sc, .slice ta tn tc] (Sort.grow (redrawn w6 d) os) fun x w'' => x = .returned (.bool y) /\ ∃ r : Regrown, w'' = Sort.grow (redrawn w6 r.d) r.os := fun d os => Calls.regrown_of ((within_any sa ta sn sc tn tc _ _ _ (R1.below (below_regrown w6 d os)) (R2.below (below_regrown w6 d os))).mono (by
     rintro e w' ⟨y', rfl, hy, b⟩
     have : y' = y := by
      have h1 : y' = true ↔ y = true := Iff.trans hy Hy.out.symm
      cases y <;> cases y' <;> simp_all
     exact ⟨by rw [this], b⟩))
    have q0 : (0 : Int) <= (k : Int) := by omega
    have q1 : (k : Int) < 16 := by omega
    cases y with
    | true =>
     have HNX : Hid (∀ r, r < k + 1 -> ∀ n, mem (runsAt a.P r) n -> mem (runsAt b.P r) n) := fun r hr => by
      by_cases e : r = k
      ·subst e; exact Hy.out.1 rfl
      ·exact HM.out r (by omega)
     clear R1 R2
     go_wp2_with fail
     refine wp_region_quiet_below (by kernel_rfl) (by kernel_rfl) ?_
     repeat (with_reducible (refine wpQuiet_step ?_); intro K hK; go_simp; (try rw [if_neg (by unfold undef; simp)]); first | (with_reducible (refine hK _ ?_); clear hK K) | (apply Exists.intro; refine ⟨fun _ => ?_, hK _ ?_⟩; (go_at_call 42; exact zc _ _); clear hK K))
     with_reducible (refine wpQuiet_nil ?_)
     intro w7 hw'
     obtain ⟨⟨dq, osq⟩, hw''⟩ := hw'
     have b7 : Below w6.heap.size w6 w7 := by rw [hw'']; exact below_regrown w6 dq osq
     have HB7 := hide (HB.out.trans (b7.mono HB.out.size))
     clear hw'' dq osq zc k1 k2 b7
     go_wp2_with fail
     go_roundw
     case rel => exact ⟨k + 1, by omega, by go_num, HNX.out, HB7.out⟩
     case measure => simp [intOf]; omega
    | false =>
     have HNO : Hid (false = true ↔ ∀ r, r < 16 -> ∀ n, mem (runsAt a.P r) n -> mem (runsAt b.P r) n) := ⟨fun h => (by cases h), fun h => Hy.out.2 (h k hlt)⟩
     clear R1 R2
     go_wp2_with fail
     refine wp_region_quiet_below (by kernel_rfl) (by kernel_rfl) ?_
     repeat (with_reducible (refine wpQuiet_step ?_); intro K hK; go_simp; (try rw [if_neg (by unfold undef; simp)]); first | (with_reducible (refine hK _ ?_); clear hK K) | (apply Exists.intro; refine ⟨fun _ => ?_, hK _ ?_⟩; (go_at_call 42; exact zc _ _); clear hK K))
     with_reducible (refine wpQuiet_nil ?_)
     intro w7 hw'
     obtain ⟨⟨dq, osq⟩, hw''⟩ := hw'
     have b7 : Below w6.heap.size w6 w7 := by rw [hw'']; exact below_regrown w6 dq osq
     have HB7 := hide (HBB.out.trans (b7.mono HBB.out.size))
     clear hw'' dq osq zc k1 k2 b7
     go_wp2_with fail
     go_ret
     exact ⟨false, rfl, HNO.out, HB7.out⟩
   ·obtain rfl : k = 16 := by omega
    go_wp2_with fail
    go_ret
    exact ⟨true, rfl, ⟨fun _ => HM.out, fun _ => rfl⟩, HBB.out⟩
end
end Go.Proofs.YtalcmdjiejhkgaaGreat
