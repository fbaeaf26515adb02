/- Shs PHa LPick LOf -/
import Derived.Shelf.SlicesQ.IndexFunc
import Derived.Test.YtehcehhfdhiomaaGreatProg
import Derived.Test.YtehcehhfdhiomaaGreatTv04
import Derived.Test.YtehcehhfdhiomaaGreatTv20
import Derived.Test.YtehcehhfdhiomaaGreatTv09
import Derived.Test.YtehcehhfdhiomaaGreatTv23
namespace Go.Proofs
open Go.Shelf
def Tryz.conS_ren : Go.Shelf.Ren := ⟨fun | 8 => 119 | 6 => 138 | n => n, fun | 22 => 24 | 23 => 65 | 25 => 151 | 4 => 4 | 3 => 3 | 0 => 0 | n => n, fun | n => n⟩
theorem Tryz.conS : Go.Proofs.SlLaysH0.n8 Tryz.prog Tryz.conS_ren := {
 mixed := by kernel_rfl
 f6 := ⟨Tryz.f138.name, by decide, Tryz.func138.trans (congrArg some (by kernel_rfl))⟩
 f8 := ⟨Tryz.f119.name, by decide, Tryz.func119.trans (congrArg some (by kernel_rfl))⟩
 t0 := Tryz.underlying0
 a0 := Tryz.isAgg0
 z0 := Tryz.sizeOf0
 v0 := Tryz.zeroValue0
 t3 := Tryz.underlying3
 a3 := Tryz.isAgg3
 z3 := Tryz.sizeOf3
 v3 := Tryz.zeroValue3
 t4 := Tryz.underlying4
 a4 := Tryz.isAgg4
 z4 := Tryz.sizeOf4
 v4 := Tryz.zeroValue4
 t22 := Tryz.underlying24
 a22 := Tryz.isAgg24
 z22 := Tryz.sizeOf24
 v22 := Tryz.zeroValue24
 t25 := Tryz.underlying151
 a25 := Tryz.isAgg151
 z25 := Tryz.sizeOf151
 v25 := Tryz.zeroValue151 }
end Go.Proofs
namespace Go.Proofs.YtehcehhfdhiomaaGreat
open Go.RowKit
attribute [local go_sem ↓] ldP_eq stP_eq ldD_eq stD_eq ldS_eq stS_eq
attribute [local go_sem] zero_PC cells_PV fold_PC PC_size cells_RV RC_size cells_SV SC_size
theorem isDotP_any (d : Rn) (w : World) : Calls Tryz.prog 97 #[RV d] w fun e w' => e = .returned (.bool (V.isR d.lo && (decide (1 ≤ d.hi) && decide (d.hi ≤ 1000000000)))) ∧ Below w.heap.size w w' := by
 have HB := hide (below_new w (.cells (RC d) 46))
 have X1 := box_new w 46 d
 have c0 := X1.at.c0
 have c1 : (w.alloc (.cells (RC d) 46)).cell? ⟨w.heap.size, 1, none⟩ = some (.int .i64 d.hi) := X1.at.c1
 clear X1
 obtain ⟨r, n⟩ := d
 dsimp only at c0 c1 ⊢
 obtain ⟨x, Hx⟩ : ∃ x, Hid (V.isR r = x) := ⟨_, rfl⟩
 rw [Hx.out]
 cases x with
 | false =>
  have HF : Hid ((false && (decide (1 ≤ n) && decide (n ≤ 1000000000))) = false) := rfl
  go_enter Tryz.func97, Tryz.ntmps97
  go_wp2_with (go_at_call 47; refine (isRepP_any r _).mono ?_; rintro e w' ⟨rfl, rfl⟩; rw [Hx.out])
  go_ret
  exact ⟨ret_bool HF.out.symm, HB.out⟩
 | true =>
  by_cases h1 : 1 ≤ n
  ·have HF : Hid ((true && (decide (1 ≤ n) && decide (n ≤ 1000000000))) = decide (n ≤ 1000000000)) := by show _ = _; simp [h1]
   rw [HF.out]
   go_enter Tryz.func97, Tryz.ntmps97
   go_wp2_with (go_at_call 47; refine (isRepP_any r _).mono ?_; rintro e w' ⟨rfl, rfl⟩; rw [Hx.out])
   go_ret
   exact ⟨rfl, HB.out⟩
  ·have HF : Hid ((true && (decide (1 ≤ n) && decide (n ≤ 1000000000))) = false) := by show _ = _; simp [h1]
   rw [HF.out]
   go_enter Tryz.func97, Tryz.ntmps97
   go_wp2_with (go_at_call 47; refine (isRepP_any r _).mono ?_; rintro e w' ⟨rfl, rfl⟩; rw [Hx.out])
   go_ret
   exact ⟨rfl, HB.out⟩
theorem idxS_nil (ao : Option Addr) (c : Nat) (v : Value) (w : World) : Calls Tryz.prog 138 #[.slice ao 0 c, v] w fun e w' => e = .returned (.int .i64 (-1)) ∧ w' = w := by
 go_enter Tryz.func138, Tryz.ntmps138
 go_wp2_with fail
 go_loopw [5, 8] (fun _ i wr => i = .int .i64 0 ∧ wr = w) (fun _ _ _ => 0)
 case atStart => exact ⟨rfl, rfl⟩
 case round =>
  obtain ⟨rfl, rfl⟩ := hrel
  go_wp2_with fail
  go_ret
  exact ⟨rfl, rfl⟩
theorem conS_nil (ao : Option Addr) (c : Nat) (v : Value) (w : World) : Calls Tryz.prog 119 #[.slice ao 0 c, v] w fun e w' => e = .returned (.bool false) ∧ w' = w := by
 go_enter Tryz.func119, Tryz.ntmps119
 go_wp2_with (go_at_call 138; refine (idxS_nil _ _ _ _).mono ?_; rintro e w' ⟨rfl, rfl⟩)
 go_ret
 exact ⟨rfl, rfl⟩
def inSp (d : Rn) (c : Sn) : Bool := decide (c.rep = d.lo) && (decide (c.lo ≤ d.hi) && decide (d.hi ≤ c.hi))
theorem litS_any (p : Nat) (c : Sn) (d : Rn) (w : World) (hd : Box w p 46 d) : Calls Tryz.prog 120 #[SV c, .pointer (some ⟨p, 0, none⟩)] w fun e w' => e = .returned (.bool (inSp d c)) ∧ Below w.heap.size w w' := by
 have HB := hide (below_new w (.cells (SC c) 65))
 obtain ⟨c0, c1, c2⟩ := (sbox_new w c).at
 have X1 := hd.below HB.out
 have d0 := X1.at.c0
 have d1 : (w.alloc (.cells (SC c) 65)).cell? ⟨p, 1, none⟩ = some (.int .i64 d.hi) := X1.at.c1
 clear X1 hd
 obtain ⟨rp, lo, hi⟩ := c
 obtain ⟨r, n⟩ := d
 dsimp only at c0 c1 c2 d0 d1 ⊢
 by_cases h1 : rp = r
 ·by_cases h2 : lo ≤ n
  ·have HF : Hid (inSp ⟨r, n⟩ ⟨rp, lo, hi⟩ = decide (n ≤ hi)) := by show _ = _; simp [inSp, h1, h2]
   have h1' : (rp == r) = true := by simp [h1]
   clear h1
   go_enter Tryz.func120, Tryz.ntmps120
   go_wp2_with fail
   go_ret
   exact ⟨ret_bool HF.out.symm, HB.out⟩
  ·have HF : Hid (inSp ⟨r, n⟩ ⟨rp, lo, hi⟩ = false) := by show _ = _; simp [inSp, h2]
   have h1' : (rp == r) = true := by simp [h1]
   clear h1
   go_enter Tryz.func120, Tryz.ntmps120
   go_wp2_with fail
   go_ret
   exact ⟨ret_bool HF.out.symm, HB.out⟩
 ·have HF : Hid (inSp ⟨r, n⟩ ⟨rp, lo, hi⟩ = false) := by show _ = _; simp [inSp, h1]
  have h1' : (rp == r) = false := by simp [h1]
  clear h1
  go_enter Tryz.func120, Tryz.ntmps120
  go_wp2_with fail
  go_ret
  exact ⟨ret_bool HF.out.symm, HB.out⟩
def encSn (s : Sn) : List Value := (SC s).toList
theorem conS_any (ao : Option Addr) (n cap : Nat) (L : List Sn) (p : Nat) (d : Rn) (w : World) (hS : SSrc w ao n cap L) (hd : Box w p 46 d) :
  Calls Tryz.prog 119 #[.slice ao n cap, .func (.func 120) #[] #[.pointer (some ⟨p, 0, none⟩)]] w fun e w' => e = .returned (.bool (L.any (inSp d))) ∧ Below w.heap.size w w' := by
 by_cases hn : n = 0
 ·subst hn
  have e := List.eq_nil_of_length_eq_zero hS.len
  subst e
  refine (conS_nil ao cap _ w).mono ?_
  rintro e w' ⟨rfl, rfl⟩
  exact ⟨rfl, Below.refl _ _⟩
 ·obtain ⟨ad, rfl, A0⟩ := hS.at 0 (by omega)
  obtain ⟨b, o, rfl⟩ := hS.spot (by omega)
  have eg : ∀ args w, (callFunc 120 args).run Tryz.prog w = .ok (.enter 120 args) w := enters_of Tryz.func120 (by kernel_rfl) rfl
  have h0 := World.block_lt_of_cell? _ _ A0.c0
  rw [block_add] at h0
  have hp := hd.lt
  have h := AnyQ.slices_ContainsFunc Tryz.conS 3 Tryz.isAgg65 Tryz.sizeOf65 encSn (fun _ => rfl) (inSp d) 120 #[.pointer (some ⟨p, 0, none⟩)] eg b o n cap L w
   (fun W r hb => (litS_any p r d W (hd.below hb)).mono fun e w' ⟨he, hb'⟩ => ⟨he, hb.trans (hb'.mono hb.size)⟩)
   (by rw [hS.len]; exact Nat.le_refl _) (by have := hS.big; omega) h0
   (fun j hj i v hv => by
    have A := hS.cell _ rfl j (by rw [← hS.len]; exact hj)
    have e : L[j]! = L.getD j sn0 := by rw [getElem!_pos L j hj]; simp [List.getD, hj]
    rw [e] at hv
    have q0 := A.c0
    have q1 := A.c1
    have q2 := A.c2
    rw [Addr.add_lit] at q0 q1 q2
    rw [Addr.add_lit] at q1 q2
    match i, hv with
    | 0, hv => rw [← hv]; exact q0
    | 1, hv => rw [← hv]; exact q1
    | 2, hv => rw [← hv]; exact q2
    | i + 3, hv => simp [encSn, SC] at hv)
  rw [List.take_of_length_le (by rw [hS.len]; exact Nat.le_refl _)] at h
  exact h
theorem hasD_vec (P : Pst) (r : Nat) (hr : r < 16) (n : Int) (h1 : 1 ≤ n) (h2 : n ≤ 1000000000) : V.hasD P.vec (r : Int) n = decide (n ≤ P.vec.getD r 0) := by
 unfold V.hasD V.atI
 rw [if_pos (by simp [V.isR]; omega), Int.toNat_natCast]
 unfold V.at' V.clamp
 rw [if_pos hr]
 generalize P.vec.getD r 0 = z
 rw [decide_eq_true h1, Bool.true_and]
 apply Bool.eq_iff_iff.2
 rw [decide_eq_true_iff, decide_eq_true_iff]
 split
 ·omega
 ·split <;> omega
set_option maxRecDepth 100000 in
theorem pastHas_any (p : Pv) (d : Rn) (w : World) (hS : PSrc w p) : Calls Tryz.prog 86 #[PV p, RV d] w fun e w' => GivB w w' e (dotIn p.P d) := by
 have b1 := below_new w (.cells (PC p) 26)
 have b2 := below_new (w.alloc (.cells (PC p) 26)) (.cells (RC d) 46)
 obtain ⟨n0, n1⟩ := ((pbox_new w p).below b2).nums
 have X1 := box_new (w.alloc (.cells (PC p) 26)) 46 d
 rw [World.size_alloc] at X1
 have HX := hide X1
 have HBK := hide (b1.trans (b2.mono b1.size))
 have HSP := hide (hS.below HBK.out)
 have l0 := run_ldD X1.at
 clear hS b1 b2 X1
 obtain ⟨wk, hwk⟩ : ∃ wk, (w.alloc (.cells (PC p) 26)).alloc (.cells (RC d) 46) = wk := ⟨_, rfl⟩
 rw [hwk] at n0 n1 HBK HSP HX l0
 go_enter Tryz.func86, Tryz.ntmps86
 go_wp2_with fail
 clear hwk
 refine (isDotP_any d _).mono ?_
 rintro e w1 ⟨rfl, b3⟩
 have HB1 := hide (HBK.out.trans (b3.mono HBK.out.size))
 have HX1 := hide (HX.out.below b3)
 have HSP1 := hide (HSP.out.below b3)
 have m0 := (b3.cell (World.block_lt_of_cell? _ _ n0)).trans n0
 have m1 := (b3.cell (World.block_lt_of_cell? _ _ n1)).trans n1
 have l1 := run_ldD HX1.out.at
 clear n0 n1 l0 HX HSP HBK b3
 by_cases hd : V.isR d.lo = true ∧ 1 ≤ d.hi ∧ d.hi ≤ 1000000000
 ·rw [show (V.isR d.lo && (decide (1 ≤ d.hi) && decide (d.hi ≤ 1000000000))) = true by simp [hd]]
  have hr : 0 ≤ d.lo ∧ d.lo < 16 := by have := hd.1; simp [V.isR] at this; exact this
  obtain ⟨k, hk⟩ : ∃ k : Nat, d.lo = k := ⟨d.lo.toNat, by omega⟩
  have HVD : Hid (V.hasD p.P.vec d.lo d.hi = true ↔ d.hi ≤ p.P.vec.getD d.lo.toNat 0) := by
   show _ ↔ _
   rw [hk, hasD_vec p.P k (by omega) _ hd.2.1 hd.2.2, Int.toNat_natCast]
   exact decide_eq_true_iff
  have HIF := hide (dotIn_iff p.P d)
  have HD := hide (And.intro hr hd)
  clear hk hd hr
  go_wp2_with fail
  refine (V.has_any _ _ _ p.P.vec d.lo d.hi _ HSP1.out.vec).mono ?_
  rintro e w2 ⟨rfl, b4⟩
  have HB2 := hide (HB1.out.trans (b4.mono HB1.out.size))
  have HX2 := hide (HX1.out.below b4)
  have HSC2 := hide (HSP1.out.below b4).cloud
  have m2 := (b4.cell (World.block_lt_of_cell? _ _ m1)).trans m1
  clear m0 m1 l1 HX1 HSP1 b4
  obtain ⟨x, Hx⟩ : ∃ x, Hid (V.hasD p.P.vec d.lo d.hi = x) := ⟨_, rfl⟩
  rw [Hx.out]
  cases x with
  | true =>
   have HY : Hid (dotIn p.P d) := HIF.out.2 ⟨HD.out.1.1, HD.out.1.2, HD.out.2.2.1, HD.out.2.2.2, Or.inl (HVD.out.1 Hx.out)⟩
   go_wp2_with fail
   go_ret
   exact ⟨true, rfl, BIf.yes HY.out, HB2.out⟩
  | false =>
   go_wp2_with fail
   refine (conS_any _ _ _ p.P.cloud _ d _ HSC2.out HX2.out).mono ?_
   rintro e w3 ⟨rfl, b5⟩
   have HB3 := hide (HB2.out.trans (b5.mono HB2.out.size))
   have HA : Hid (BIf (p.P.cloud.any (inSp d)) (dotIn p.P d)) := by
    show _ ↔ _
    rw [HIF.out, List.any_eq_true]
    constructor
    ·rintro ⟨c, hc, e⟩
     simp [inSp] at e
     exact ⟨HD.out.1.1, HD.out.1.2, HD.out.2.2.1, HD.out.2.2.2, Or.inr ⟨c, hc, e⟩⟩
    ·rintro ⟨_, _, _, _, h | ⟨c, hc, e⟩⟩
     ·have := HVD.out.2 h
      rw [Hx.out] at this
      cases this
     ·exact ⟨c, hc, by simp [inSp, e]⟩
   generalize p.P.cloud.any (inSp d) = y at HA ⊢
   clear b5 m2
   go_wp2_with fail
   go_ret
   exact ⟨y, rfl, HA.out, HB3.out⟩
 ·rw [show (V.isR d.lo && (decide (1 ≤ d.hi) && decide (d.hi ≤ 1000000000))) = false by
   cases h : (V.isR d.lo && (decide (1 ≤ d.hi) && decide (d.hi ≤ 1000000000))) with
   | false => rfl
   | true => simp at h; exact absurd ⟨h.1, h.2.1, h.2.2⟩ hd]
  have HN : Hid (¬ dotIn p.P d) := fun h => hd ⟨h.1, by have := (dotIn_iff _ _).1 h; omega, by have := (dotIn_iff _ _).1 h; omega⟩
  clear hd
  go_wp2_with fail
  go_ret
  exact ⟨false, rfl, BIf.no HN.out, HB1.out⟩
end Go.Proofs.YtehcehhfdhiomaaGreat
namespace Go.Proofs.YtehcehhfdhiomaaGreat.K
open Go.RowKit
attribute [local go_sem ↓] ld28_eq st28_eq
attribute [local go_sem] zero_EC cells_EV EC_size
attribute [local go_sem] fold_EC
end Go.Proofs.YtehcehhfdhiomaaGreat.K
namespace Go.Proofs.YtehcehhfdhiomaaGreat.K
open Go.RowKit

def eqS (a b : ByteArray) : Bool := a.toList == b.toList
def GivesEE (w w' : World) (x : Ending) (L : List En) (er : Int) : Prop := ∃ ao n c, x = .returned (.tuple #[.slice ao n c, .int .i64 er]) ∧ ESrc w' ao n c L ∧ Below w.heap.size w w' ∧ ∀ ad, ao = some ad → w.heap.size ≤ ad.block
theorem chk_cases (L : List En) : chk L = 0 ∨ chk L = 1 := by unfold chk; split <;> simp
def ofE (L : List En) (s : ByteArray) : Int := if chk L = 0 then (if good s.data.toList = true then 0 else 5) else 1
def ofV (L : List En) (s : ByteArray) : List En := if ofE L s = 0 then L.filter (fun e => eqS e.sku s) else []
def owE (L : List En) (r : Int) (s : ByteArray) : Int := if chk L = 0 then (if isR r = true then (if good s.data.toList = true then 0 else 5) else 3) else 1
def owV (L : List En) (r : Int) (s : ByteArray) : List En := if owE L r s = 0 then L.filter (fun e => e.rep == r && eqS e.sku s) else []

end Go.Proofs.YtehcehhfdhiomaaGreat.K
