/- LPick LOf OPa ODt QCb -/
import Derived.Test.YtmbkmpeongodbaaGreatTk
import Derived.Test.YtmbkmpeongodbaaGreatAm19
import Derived.Test.YtmbkmpeongodbaaGreatAm18
import Derived.Test.YtmbkmpeongodbaaGreatAm11
import Derived.Test.YtmbkmpeongodbaaGreatAm16
import Derived.Test.YtmbkmpeongodbaaGreatAm00
namespace Go.Proofs.YtmbkmpeongodbaaGreat.K
open Go.RowKit
attribute [local go_sem ↓] ld28_eq st28_eq
attribute [local go_sem] zero_EC cells_EV EC_size
attribute [local go_sem] fold_EC
set_option maxHeartbeats 1600000 in
theorem pickOf_any (ao : Option Addr) (n cap : Nat) (L : List En) (b : Nat) (p : En → Bool) (w : World) (hS : ESrc w ao n cap L)
  (hp : ∀ W, Below w.heap.size w W → ∀ e, Calls Tryz.prog 95 #[EV e, .pointer (some ⟨b, 0, none⟩)] W fun x w' => x = .returned (.bool (p e)) ∧ Below W.heap.size W w') :
  Calls Tryz.prog 51 #[.slice ao n cap, .func (.func 95) #[] #[.pointer (some ⟨b, 0, none⟩)]] w fun x w' => GivesE w w' x (L.filter p) := by
 have HS := hide hS
 have hn := hS.2.2.2.2
 have HL : Hid (L.length = n) := hS.1
 have HP := hide hp
 clear hS hp
 go_enter Tryz.func51, Tryz.ntmps51
 go_wp2_with fail
 go_loopw [5, 10] (fun v i wr => ∃ (k : Nat) (ap : Option Addr) (c : Nat), k ≤ n ∧ v = .slice ap ((L.take k).filter p).length c ∧ i = .int .i64 k ∧ Hid (OwnE w.heap.size w.heap.size w wr ap c ((L.take k).filter p))) (fun _ i _ => n - (intOf i).toNat)
 case atStart => exact ⟨0, none, 0, Nat.zero_le _, rfl, rfl, OwnE.nil (Below.refl _ _) (Nat.le_refl _) (Nat.le_refl _)⟩
 case round =>
  obtain ⟨k, ap, c, hk, rfl, rfl, HO⟩ := hrel
  obtain ⟨acc, Hacc⟩ : ∃ acc, Hid ((L.take k).filter p = acc) := ⟨_, rfl⟩
  have hal : acc.length ≤ k := by
   rw [← Hacc.out]; have h1 := List.length_filter_le p (L.take k); have h2 := List.length_take_le k L; omega
  rw [Hacc.out] at HO ⊢
  by_cases hlt : k < n
  ·obtain ⟨ad, rfl, A0⟩ := (HS.out.below HO.out.below).at k hlt
   have hld := run_ld28 A0
   obtain ⟨e, He⟩ : ∃ e, Hid (L.getD k en0 = e) := ⟨_, rfl⟩
   rw [He.out] at hld A0
   have HT := hide (take_snoc L k (by rw [HL.out]; exact hlt))
   rw [He.out] at HT
   obtain ⟨w1, hst, X1, B1, Z1⟩ := made wr e wr.heap.size rfl
   have HX := hide X1
   have O1 := hide (HO.out.later B1)
   have lx := run_ld28 X1.at
   have HC := hide (HP.out w1 O1.out.below e)
   clear X1 B1 A0
   obtain ⟨q, Hq⟩ : ∃ q, Hid (p e = q) := ⟨_, rfl⟩
   rw [Hq.out] at HC
   cases q with
   | false =>
    have HN : Hid ((L.take (k + 1)).filter p = acc) := by show _ = _; rw [HT.out, List.filter_append, Hacc.out]; simp [Hq.out]
    go_wp2_with fail
    refine HC.out.mono ?_
    rintro x w2 ⟨rfl, b2⟩
    have O2 := hide (O1.out.later b2)
    clear b2
    go_wp2_with fail
    go_roundw
    case rel => exact ⟨k + 1, ap, c, by omega, by rw [HN.out], by go_num, by rw [HN.out]; exact O2⟩
    case measure => simp [intOf]; omega
   | true =>
    have HN : Hid ((L.take (k + 1)).filter p = acc ++ [e]) := by show _ = _; rw [HT.out, List.filter_append, Hacc.out]; simp [Hq.out]
    go_wp2_with fail
    refine HC.out.mono ?_
    rintro x w2 ⟨rfl, b2⟩
    have O2 := O1.out.later b2
    have l2 := run_ld28 (HX.out.below b2).at
    clear b2 lx
    go_wp2_with (at_builtin; refine O2.append e _ rfl (by omega) rfl (.tmp 17) (.tmp 19) rfl acc.length rfl rfl rfl ?_; intro g4 c4 w4 O4 hk4)
    go_roundw
    case rel => exact ⟨k + 1, some ⟨g4, 0, none⟩, c4, by omega, by rw [HN.out]; simp, by go_num, by rw [HN.out]; exact O4⟩
    case measure => simp [intOf]; omega
  ·obtain rfl : k = n := by omega
   have HF : Hid (L.filter p = acc) := by show _ = _; rw [← Hacc.out, List.take_of_length_le (by rw [HL.out]; exact Nat.le_refl _)]
   have hs : ∀ e ∈ acc, e.sku.size ≤ maxLen := by
    intro e he; rw [← HF.out] at he; exact HS.out.2.2.2.1 e ((List.mem_filter.1 he).1)
   obtain ⟨S1, F1⟩ := HO.out.src hs (by omega)
   have HS1 := hide S1
   have HF1 := hide F1
   clear S1 F1 hs
   go_wp2_with fail
   go_ret
   exact ⟨_, _, _, rfl, by rw [HF.out]; exact HS1.out, HO.out.below, HF1.out⟩
end Go.Proofs.YtmbkmpeongodbaaGreat.K
namespace Go.Proofs.YtmbkmpeongodbaaGreat.K
open Go.RowKit

def eqS (a b : ByteArray) : Bool := a.toList == b.toList
theorem ofLit_any (e : En) (b : Nat) (s : ByteArray) (W : World) (hc : W.cell? ⟨b, 0, none⟩ = some (.string s)) : Calls Tryz.prog 95 #[EV e, .pointer (some ⟨b, 0, none⟩)] W fun x w' => x = .returned (.bool (eqS e.sku s)) ∧ Below W.heap.size W w' := by
 obtain ⟨r, m, t, q⟩ := e
 have HB : Hid (Below W.heap.size W (W.alloc (.cells #[.int .i64 r, .int .i64 m, .string t, .int .i64 q] 46))) := below_new _ _
 have hlt := World.block_lt_of_cell? _ _ hc
 have hc1 : (W.alloc (.cells #[.int .i64 r, .int .i64 m, .string t, .int .i64 q] 46)).cell? ⟨b, 0, none⟩ = some (.string s) := by rw [HB.out.cell hlt]; exact hc
 clear hc hlt
 show Calls Tryz.prog 95 #[.agg #[.int .i64 r, .int .i64 m, .string t, .int .i64 q], .pointer (some ⟨b, 0, none⟩)] W _
 go_enter Tryz.func95, Tryz.ntmps95
 go_wp2_with fail
 go_ret
 exact ⟨rfl, HB.out⟩
def GivesEE (w w' : World) (x : Ending) (L : List En) (er : Int) : Prop := ∃ ao n c, x = .returned (.tuple #[.slice ao n c, .int .i64 er]) ∧ ESrc w' ao n c L ∧ Below w.heap.size w w' ∧ ∀ ad, ao = some ad → w.heap.size ≤ ad.block
theorem chk_cases (L : List En) : chk L = 0 ∨ chk L = 1 := by unfold chk; split <;> simp
def ofE (L : List En) (s : ByteArray) : Int := if chk L = 0 then (if good s.data.toList = true then 0 else 5) else 1
def ofV (L : List En) (s : ByteArray) : List En := if ofE L s = 0 then L.filter (fun e => eqS e.sku s) else []
def owE (L : List En) (r : Int) (s : ByteArray) : Int := if chk L = 0 then (if isR r = true then (if good s.data.toList = true then 0 else 5) else 3) else 1
def owV (L : List En) (r : Int) (s : ByteArray) : List En := if owE L r s = 0 then L.filter (fun e => e.rep == r && eqS e.sku s) else []

set_option maxHeartbeats 1600000 in
theorem of_any (ao : Option Addr) (n cap : Nat) (L : List En) (s : ByteArray) (w : World) (hS : ESrc w ao n cap L) (hs : s.size ≤ maxLen) :
  Calls Tryz.prog 47 #[.slice ao n cap, .string s] w fun x w' => GivesEE w w' x (ofV L s) (ofE L s) := by
 have B0 := hide (below_new w (.cells #[.string s] 9))
 have S0 := hide (hS.below B0.out)
 have c0 : (w.alloc (.cells #[.string s] 9)).cell? ⟨w.heap.size, 0, none⟩ = some (.string s) := by simp
 have HC0 := hide c0
 have HSs := hide hs
 obtain ⟨w0, Hw0⟩ : ∃ w0, Hid (w.alloc (.cells #[.string s] 9) = w0) := ⟨_, rfl⟩
 rw [Hw0.out] at B0 S0 HC0
 clear hS hs c0
 go_enter Tryz.func47, Tryz.ntmps47
 go_wp2_with fail
 rw [Hw0.out]
 refine (lcheck_any _ _ _ L _ S0.out).mono ?_
 rintro x w1 ⟨rfl, b1⟩
 have B1 := hide (B0.out.trans (b1.mono B0.out.size))
 have S1 := hide (S0.out.below b1)
 have c1 : w1.cell? ⟨w.heap.size, 0, none⟩ = some (.string s) := by rw [b1.cell (World.block_lt_of_cell? _ _ HC0.out)]; exact HC0.out
 clear b1 S0 B0 HC0 Hw0
 rcases chk_cases L with h | h
 ·rw [h]
  obtain ⟨gd, Hg⟩ : ∃ gd, Hid (good s.data.toList = gd) := ⟨_, rfl⟩
  cases gd with
  | false =>
   have HE : Hid (ofE L s = 5) := by show _ = _; unfold ofE; rw [if_pos h, Hg.out]; rfl
   have HV : Hid (ofV L s = []) := by show _ = _; unfold ofV; rw [HE.out]; rfl
   clear h
   go_wp2_with (go_at_call 50; refine (good_any s _ HSs.out).mono ?_; rintro e w' ⟨rfl, rfl⟩; rw [Hg.out])
   go_ret2
   rw [HE.out, HV.out]
   exact ⟨_, _, _, rfl, ESrc.none _, B1.out, fun ad h => by cases h⟩
  | true =>
   have HE : Hid (ofE L s = 0) := by show _ = _; unfold ofE; rw [if_pos h, Hg.out]; rfl
   have HV : Hid (ofV L s = L.filter (fun e => eqS e.sku s)) := by show _ = _; unfold ofV; rw [HE.out]; rfl
   clear h
   have HP : Hid (∀ W, Below w1.heap.size w1 W → ∀ e, Calls Tryz.prog 95 #[EV e, .pointer (some ⟨w.heap.size, 0, none⟩)] W fun x w' => x = .returned (.bool (eqS e.sku s)) ∧ Below W.heap.size W w') := fun W hW e =>
    ofLit_any e w.heap.size s W (by rw [hW.cell (World.block_lt_of_cell? _ _ c1)]; exact c1)
   go_wp2_with (first | (go_at_call 50; refine (good_any s _ HSs.out).mono ?_; rintro e w' ⟨rfl, rfl⟩; rw [Hg.out]) | (go_at_call 51; refine (pickOf_any _ _ _ L w.heap.size (fun e => eqS e.sku s) _ S1.out HP.out).mono ?_; rintro x w2 ⟨a2, n2, q2, rfl, S2, b2, F2⟩))
   go_ret2
   rw [HE.out, HV.out]
   exact ⟨_, _, _, rfl, S2, B1.out.trans (b2.mono B1.out.size), fun ad h => Nat.le_trans B1.out.size (F2 ad h)⟩
 ·have HE : Hid (ofE L s = 1) := by show _ = _; unfold ofE; rw [h]; rfl
  have HV : Hid (ofV L s = []) := by show _ = _; unfold ofV; rw [HE.out]; rfl
  rw [h]
  clear h
  go_wp2_with fail
  go_ret2
  rw [HE.out, HV.out]
  exact ⟨_, _, _, rfl, ESrc.none _, B1.out, fun ad h => by cases h⟩
end Go.Proofs.YtmbkmpeongodbaaGreat.K
namespace Go.Proofs.YtmbkmpeongodbaaGreat
open Go.RowKit
attribute [local go_sem ↓] ldP_eq stP_eq ldD_eq stD_eq
attribute [local go_sem] cells_PV PC_size
variable {w w' w2 W W' : World} {g : Nat}

def Ahd (x y : Sn) : Prop := x.rep < y.rep ∨ (x.rep = y.rep ∧ x.hi < y.lo)
theorem chain_pw (Z : List Int) : ∀ (L : List Sn) (a : Sn), chain Z a L → (∀ y ∈ L, a.rep < y.rep ∨ (a.rep = y.rep ∧ a.hi < y.lo)) ∧ L.Pairwise Ahd ∧ ∀ y ∈ L, y.lo ≤ y.hi
 | [], _, _ => ⟨fun y hy => (by cases hy), List.Pairwise.nil, fun y hy => by cases hy⟩
 | c :: t, a, h => by
  have S := h.1
  obtain ⟨h1, h2, h3⟩ := chain_pw Z t c h.2
  have ha : a.rep < c.rep ∨ (a.rep = c.rep ∧ a.hi < c.lo) := by
   have h4 := S.rep
   by_cases e : c.rep = a.rep
   ·have := S.gap e
    exact .inr ⟨e.symm, by omega⟩
   ·exact .inl (by omega)
  have ho := S.ord
  refine ⟨fun y hy => ?_, List.Pairwise.cons h1 h2, fun y hy => ?_⟩
  ·rcases List.mem_cons.1 hy with rfl | hy
   ·exact ha
   ·rcases h1 y hy with h5 | ⟨h5, h6⟩
    ·left; omega
    ·rcases ha with h7 | ⟨h7, h8⟩
     ·left; omega
     ·right; exact ⟨by omega, by omega⟩
  ·rcases List.mem_cons.1 hy with rfl | hy
   ·exact ho
   ·exact h3 y hy
theorem pw_at {L : List Sn} (h : L.Pairwise Ahd) {a b : Nat} (hab : a < b) (hb : b < L.length) : Ahd (L.getD a sn0) (L.getD b sn0) := by
 have e1 : L.getD a sn0 = L[a]'(by omega) := by simp [List.getD, List.getElem?_eq_getElem (show a < L.length by omega)]
 have e2 : L.getD b sn0 = L[b]'(by omega) := by simp [List.getD, List.getElem?_eq_getElem (show b < L.length by omega)]
 rw [e1, e2]
 exact List.pairwise_iff_getElem.1 h a b (by omega) hb hab
theorem mem_at {L : List Sn} {a : Nat} (h : a < L.length) : L.getD a sn0 ∈ L := by
 have e1 : L.getD a sn0 = L[a]'h := by simp [List.getD, List.getElem?_eq_getElem h]
 rw [e1]
 exact List.getElem_mem h
theorem near_mono {P : Pst} (h : InForm P) (d : Rn) : ∀ a b, a ≤ b → b < P.cloud.length → nrC (P.cloud.getD b sn0) d < 0 → nrC (P.cloud.getD a sn0) d < 0 := by
 intro a b hab hb hn
 obtain ⟨-, hp, ho⟩ := chain_pw _ _ _ h.2
 by_cases e : a = b
 ·rw [e]; exact hn
 ·have h1 := pw_at hp (show a < b by omega) hb
  have h2 := ho _ (mem_at hb)
  rw [nrC_neg] at hn ⊢
  rcases h1 with h3 | ⟨h3, h4⟩
  ·rcases hn with h5 | ⟨h5, h6⟩
   ·left; omega
   ·left; omega
  ·rcases hn with h5 | ⟨h5, h6⟩
   ·left; omega
   ·right; exact ⟨by omega, by omega⟩
theorem near_in {P : Pst} (h : InForm P) {d : Rn} {i n : Nat} (hn : P.cloud.length = n) (hF : FirstAt P.cloud d n i) : dotIn ⟨P.vec, (P.cloud.drop i).take 1⟩ d ↔ dotIn P d := by
 subst hn
 obtain ⟨-, hp, ho⟩ := chain_pw _ _ _ h.2
 rw [dotIn_iff, dotIn_iff]
 have key : (∃ c, c ∈ (P.cloud.drop i).take 1 ∧ c.rep = d.lo ∧ c.lo ≤ d.hi ∧ d.hi ≤ c.hi) ↔ (∃ c, c ∈ P.cloud ∧ c.rep = d.lo ∧ c.lo ≤ d.hi ∧ d.hi ≤ c.hi) := by
  constructor
  ·rintro ⟨c, hc, hr⟩
   exact ⟨c, List.mem_of_mem_drop (List.mem_of_mem_take hc), hr⟩
  ·rintro ⟨c, hc, h1, h2, h3⟩
   obtain ⟨j, hj, rfl⟩ := List.getElem_of_mem hc
   have e1 : P.cloud.getD j sn0 = P.cloud[j] := by simp [List.getD, List.getElem?_eq_getElem hj]
   rw [← e1] at h1 h2 h3
   by_cases hji : j < i
   ·have := (nrC_neg _ _).1 (hF.2.1 j hji)
    omega
   ·by_cases hij : j = i
    ·subst hij
     refine ⟨_, ?_, h1, h2, h3⟩
     rw [e1, List.drop_eq_getElem_cons hj, List.take_succ_cons]
     exact List.mem_cons_self
    ·exfalso
     have h4 := hF.2.2 (by omega)
     have h5 := pw_at hp (show i < j by omega) hj
     have h6 : ¬ nrC (P.cloud.getD i sn0) d < 0 := by omega
     rw [nrC_neg] at h6
     rcases h5 with h7 | ⟨h7, h8⟩
     ·exact h6 (.inl (by omega))
     ·exact h6 (.inr ⟨by omega, by omega⟩)
 rw [key]
def inB (P : Pst) (e : K.En) : Bool := decide (0 ≤ e.rep) && (decide (e.rep < 16) && (decide (1 ≤ e.num) && (decide (e.num ≤ 1000000000) && (decide (e.num ≤ P.vec.getD e.rep.toNat 0) || P.cloud.any (fun c => decide (c.rep = e.rep) && (decide (c.lo ≤ e.num) && decide (e.num ≤ c.hi)))))))
theorem inB_iff (P : Pst) (e : K.En) : inB P e = true ↔ dotIn P ⟨e.rep, e.num⟩ := by
 rw [dotIn_iff]
 unfold inB
 simp only [Bool.and_eq_true, Bool.or_eq_true, decide_eq_true_eq, List.any_eq_true]
def pkB (P : Pst) (ins : Bool) (e : K.En) : Bool := inB P e == ins
theorem enc_dot {e : K.En} {T : TypeId} (h : K.Box W g T e) : RnAt W ⟨g, 0, none⟩ ⟨e.rep, e.num⟩ := ⟨h.at.c0, h.at.c1⟩
set_option maxRecDepth 100000 in
set_option maxHeartbeats 1600000 in
theorem parted1_any (p : Pv) (gp gi : Nat) (ins : Bool) (e : K.En) (w : World) (hI : InForm p.P) (hp : PBox w gp p) (hS : PSrc w p) (hi : w.heap[gi]? = some (.cells #[.bool ins] 4 (0, 0))) :
  Calls Tryz.prog 107 #[K.EV e, .pointer (some ⟨gp, 0, none⟩), .pointer (some ⟨gi, 0, none⟩)] w fun x w' => x = .returned (.bool (pkB p.P ins e)) ∧ Below w.heap.size w w' := by
 have b1 := K.below_new w (.cells (K.EC e) 46)
 have x1 := K.box_new w 46 e
 obtain ⟨w1, hw1⟩ : ∃ w1, w.alloc (.cells (K.EC e) 46) = w1 := ⟨_, rfl⟩
 obtain ⟨g1, hg1⟩ : ∃ g1, w.heap.size = g1 := ⟨_, rfl⟩
 rw [hw1] at b1 x1
 rw [hg1] at x1
 have hil : gi < w.heap.size := (Array.getElem?_eq_some_iff.1 hi).1
 have HX : Hid (PBox w1 gp p ∧ PSrc w1 p ∧ w1.heap[gi]? = some (.cells #[.bool ins] 4 (0, 0)) ∧ K.Box w1 g1 46 e ∧ gi < w1.heap.size) := ⟨hp.below b1, hS.below b1, (b1.block gi hil).trans hi, x1, Nat.lt_of_lt_of_le hil b1.size⟩
 have HSt : Hid (∀ W, Below w1.heap.size w1 W → (ldP (.pointer (some ⟨gp, 0, none⟩))).run Tryz.prog W = .ok (PV p) W ∧ (ldD (.pointer (some ⟨g1, 0, none⟩))).run Tryz.prog W = .ok (RV ⟨e.rep, e.num⟩) W ∧ W.cell? ⟨gi, 0, none⟩ = some (.bool ins)) := fun W hW => by
  refine ⟨run_ldP (HX.out.1.below hW).at, run_ldD (enc_dot (HX.out.2.2.2.1.below hW)), ?_⟩
  have h := (hW.block gi HX.out.2.2.2.2).trans HX.out.2.2.1
  simp [World.cell?, h]
 have HB := hide b1
 have HI := hide hI
 clear b1 x1 hp hS hi hil hI
 go_enter Tryz.func107, Tryz.ntmps107
 go_wp2_with fail
 clear hw1 hg1
 refine wp_region_held_drew (S := fun W => (ldP (.pointer (some ⟨gp, 0, none⟩))).run Tryz.prog W = .ok (PV p) W ∧ (ldD (.pointer (some ⟨g1, 0, none⟩))).run Tryz.prog W = .ok (RV ⟨e.rep, e.num⟩) W ∧ W.cell? ⟨gi, 0, none⟩ = some (.bool ins)) (by kernel_rfl) (HSt.out _ (below_drew1 w1)) (fun hHeld => ?_)
 refine wTk 0 ⟨some 5, .load 26 (.tmp 1), 26, "picks.go:79", #[], none⟩ rfl ?_
 refine wTk 1 ⟨some 6, .fieldAddr 46 (.tmp 3) 0, 0, "picks.go:79", #[], none⟩ rfl ?_
 refine wTk 2 ⟨some 7, .load 44 (.tmp 6), 44, "picks.go:79", #[⟨1, .data⟩], none⟩ rfl ?_
 refine wTk 4 ⟨some 9, .fieldAddr 46 (.tmp 3) 0, 0, "picks.go:79", #[], none⟩ rfl ?_
 refine wTk 5 ⟨some 10, .load 44 (.tmp 9), 44, "picks.go:79", #[⟨4, .data⟩], none⟩ rfl ?_
 refine wTk 7 ⟨some 12, .load 4 (.tmp 2), 4, "picks.go:79", #[], none⟩ rfl ?_
 refine wpAnyH_ready (rs := [3]) (by kernel_rfl) (by simp) (.cons rfl (fun K hK => ?_) .nil)
 go_simp
 go_wp2_with fail
 refine (near_any p ⟨e.rep, e.num⟩ _ (HX.out.2.1.below (below_drew1 w1)) (fun a b hab hb => near_mono HI.out _ a b hab (by rw [HX.out.2.1.cloud.len]; exact hb))).mono ?_
 rintro x w3 ⟨q, i, rfl, hq, hF, hP, b3⟩
 have hB3 : Below w1.heap.size w1 w3 := (below_drew1 w1).trans b3
 have HB3 := hide hB3
 have HQ := hide hq
 have HN : Hid (dotIn q.P ⟨e.rep, e.num⟩ ↔ dotIn p.P ⟨e.rep, e.num⟩) := by rw [hP]; exact near_in HI.out HX.out.2.1.cloud.len hF
 refine hK.out _ _ (HSt.out _ hB3) (fun hHeld => ?_)
 clear hK K b3 hB3 hq hF hP
 refine wpAnyH_ready (rs := [6]) (by kernel_rfl) (by simp) (.cons rfl (fun K hK => ?_) .nil)
 go_simp
 go_wp2_with fail
 refine (pastHas_any q ⟨e.rep, e.num⟩ _ HQ.out).mono ?_
 rintro x w4 ⟨b, rfl, hb, b4⟩
 have hB4 : Below w1.heap.size w1 w4 := HB3.out.trans (b4.mono HB3.out.size)
 have HB4 := hide (HB.out.trans (hB4.mono HB.out.size))
 have HR : Hid (pkB p.P ins e = (b == ins)) := by
  show _ = _
  unfold pkB
  congr 1
  have h1 := inB_iff p.P e
  have h2 := hb.out
  cases hx : inB p.P e <;> cases b
  ·rfl
  ·rw [hx] at h1; exact absurd (h1.2 (HN.out.1 (h2.1 rfl))) (by simp)
  ·rw [hx] at h1; have := h2.2 (HN.out.2 (h1.1 rfl)); cases this
  ·rfl
 refine hK.out _ _ (HSt.out _ hB4) (fun hHeld => ?_)
 clear hK K b4 hB4 hb HN
 refine wTk 8 ⟨some 13, .binOp .eql 4 (.tmp 11) (.tmp 12) 4, 4, "picks.go:79", #[⟨6, .data⟩, ⟨7, .data⟩], none⟩ rfl ?_
 refine wTk 9 ⟨some 4, .assign (.tmp 13), 4, "picks.go:79", #[⟨8, .data⟩, ⟨6, .chain⟩, ⟨0, .phase⟩, ⟨1, .phase⟩, ⟨2, .phase⟩, ⟨3, .phase⟩, ⟨4, .phase⟩, ⟨5, .phase⟩, ⟨6, .phase⟩, ⟨7, .phase⟩, ⟨8, .phase⟩], none⟩ rfl ?_
 refine wpAnyH_done (by kernel_rfl) ?_ _
 clear hHeld
 go_wp2_with fail
 go_ret
 exact ⟨ret_bool HR.out.symm, HB4.out⟩
def PtA (w w' : World) (x : Ending) (L : List K.En) (P : Pst) (ins : Bool) : Prop := (K.chk L = 0 ∧ InForm P ∧ K.GivesEE w w' x (L.filter (pkB P ins)) 0) ∨ (¬ (K.chk L = 0 ∧ InForm P) ∧ K.GivesEE w w' x [] 1)
set_option maxRecDepth 100000 in
set_option maxHeartbeats 1600000 in
theorem parted_any (ao : Option Addr) (n cap : Nat) (L : List K.En) (p : Pv) (ins : Bool) (w : World) (hS : K.ESrc w ao n cap L) (hP : PSrc w p) :
  Calls Tryz.prog 67 #[.slice ao n cap, PV p, .bool ins] w fun x w' => PtA w w' x L p.P ins := by
 have hmf : ∀ (fn : Fn) (first cap : Array Value) (w : World), (Instr.makeFunc fn first cap).run Tryz.prog w = .ok (.func fn first cap) w := fun _ _ _ _ => rfl
 have b1 := below_new w (.cells (PC p) 26)
 have x1 := pbox_new w p
 have s1 := World.size_alloc w (.cells (PC p) 26)
 obtain ⟨w1, hw1⟩ : ∃ w1, w.alloc (.cells (PC p) 26) = w1 := ⟨_, rfl⟩
 obtain ⟨g1, hg1⟩ : ∃ g1, w.heap.size = g1 := ⟨_, rfl⟩
 rw [hw1] at b1 x1 s1
 rw [hg1] at x1 s1
 have b2 := below_new w1 (.cells #[.bool ins] 4)
 have x2 := heap_alloc_new w1 (.cells #[.bool ins] 4)
 obtain ⟨w2, hw2⟩ : ∃ w2, w1.alloc (.cells #[.bool ins] 4) = w2 := ⟨_, rfl⟩
 rw [hw2] at b2 x2
 rw [s1] at x2
 have b12 := b1.trans (b2.mono b1.size)
 have HB := hide b12
 have HX : Hid (PBox w2 g1 p ∧ w2.heap[g1 + 1]? = some (.cells #[.bool ins] 4 (0, 0)) ∧ PSrc w2 p ∧ K.ESrc w2 ao n cap L) := ⟨x1.below b2, x2, hP.below b12, hS.below b12⟩
 clear b1 b2 b12 x1 x2 hS hP
 go_enter Tryz.func67, Tryz.ntmps67
 go_wp2_with fail
 clear hw1 hw2 s1 hg1
 refine (K.lcheck_any ao n cap L _ HX.out.2.2.2).mono ?_
 rintro x w3 ⟨rfl, b3⟩
 have HB3 := hide (HB.out.trans (b3.mono HB.out.size))
 have hl : g1 + 1 < w2.heap.size := (Array.getElem?_eq_some_iff.1 HX.out.2.1).1
 have HX3 : Hid (PBox w3 g1 p ∧ w3.heap[g1 + 1]? = some (.cells #[.bool ins] 4 (0, 0)) ∧ PSrc w3 p ∧ K.ESrc w3 ao n cap L) := ⟨HX.out.1.below b3, (b3.block _ hl).trans HX.out.2.1, HX.out.2.2.1.below b3, HX.out.2.2.2.below b3⟩
 clear b3 hl HX HB
 rcases K.chk_cases L with hc | hc
 rotate_left
 ·have HE : Hid (PtA w w3 (.returned (.tuple #[.slice none 0 0, .int .i64 1])) L p.P ins) := .inr ⟨(fun h => by rw [hc] at h; exact absurd h.1 (by decide)), _, _, _, rfl, K.ESrc.none _, HB3.out, fun ad h => by cases h⟩
  rw [hc]
  clear hc
  go_wp2_with fail
  go_ret2
  exact HE.out
 ·rw [hc]
  have l3 := run_ldP HX3.out.1.at
  have HC := hide hc
  clear hc
  go_wp2_with fail
  refine (isNormP_any p _ HX3.out.2.2.1).mono ?_
  rintro x w4 ⟨b, rfl, hb, b4⟩
  have HB4 := hide (HB3.out.trans (b4.mono HB3.out.size))
  have hl : g1 + 1 < w3.heap.size := (Array.getElem?_eq_some_iff.1 HX3.out.2.1).1
  have HX4 : Hid (PBox w4 g1 p ∧ w4.heap[g1 + 1]? = some (.cells #[.bool ins] 4 (0, 0)) ∧ PSrc w4 p ∧ K.ESrc w4 ao n cap L) := ⟨HX3.out.1.below b4, (b4.block _ hl).trans HX3.out.2.1, HX3.out.2.2.1.below b4, HX3.out.2.2.2.below b4⟩
  have HI : Hid (BIf b (InForm p.P)) := hb
  clear b4 hl HX3 HB3 l3 hb
  cases b with
  | false =>
   have HE : Hid (PtA w w4 (.returned (.tuple #[.slice none 0 0, .int .i64 1])) L p.P ins) := .inr ⟨(fun h => by have := HI.out.2 h.2; cases this), _, _, _, rfl, K.ESrc.none _, HB4.out, fun ad h => by cases h⟩
   go_wp2_with fail
   go_ret2
   exact HE.out
  | true =>
   have HIn : Hid (InForm p.P) := HI.out.1 rfl
   have HP : Hid (∀ W, Below w4.heap.size w4 W → ∀ e, Calls Tryz.prog 107 #[K.EV e, .pointer (some ⟨g1, 0, none⟩), .pointer (some ⟨g1 + 1, 0, none⟩)] W fun x w' => x = .returned (.bool (pkB p.P ins e)) ∧ Below W.heap.size W w') := fun W hW e =>
    parted1_any p g1 (g1 + 1) ins e W HIn.out (HX4.out.1.below hW) (HX4.out.2.2.1.below hW) ((hW.block _ (Array.getElem?_eq_some_iff.1 HX4.out.2.1).1).trans HX4.out.2.1)
   have HC5 := hide (K.pickPa_any ao n cap L g1 (g1 + 1) (pkB p.P ins) w4 HX4.out.2.2.2 HP.out)
   clear HI HP
   go_wp2_with fail
   refine HC5.out.mono ?_
   rintro x w5 ⟨bo, m, c, rfl, S5, b5, F5⟩
   have HE : Hid (PtA w w5 (.returned (.tuple #[.slice bo m c, .int .i64 0])) L p.P ins) := .inl ⟨HC.out, HIn.out, _, _, _, rfl, S5, HB4.out.trans (b5.mono HB4.out.size), fun ad h => Nat.le_trans HB4.out.size (F5 ad h)⟩
   clear S5 b5 F5 HC5
   go_wp2_with fail
   go_ret2
   exact HE.out
theorem PtA.pre {L : List K.En} {P : Pst} {ins : Bool} {x : Ending} (b : Below w.heap.size w W) (h : PtA W W' x L P ins) : PtA w W' x L P ins := by
 rcases h with ⟨h1, h2, ao, n, c, h3, h4, h5, h6⟩ | ⟨h1, ao, n, c, h3, h4, h5, h6⟩
 ·exact .inl ⟨h1, h2, ao, n, c, h3, h4, b.trans (h5.mono b.size), fun ad e => Nat.le_trans b.size (h6 ad e)⟩
 ·exact .inr ⟨h1, ao, n, c, h3, h4, b.trans (h5.mono b.size), fun ad e => Nat.le_trans b.size (h6 ad e)⟩
theorem PtA.shape {L : List K.En} {P : Pst} {ins : Bool} {x : Ending} (h : PtA w W' x L P ins) : ∃ bo m c er, x = .returned (.tuple #[.slice bo m c, .int .i64 er]) ∧ PtA w W' (.returned (.tuple #[.slice bo m c, .int .i64 er])) L P ins := by
 have h' := h
 rcases h with ⟨h1, h2, ao, n, c, rfl, h4⟩ | ⟨h1, ao, n, c, rfl, h4⟩
 ·exact ⟨ao, n, c, 0, rfl, h'⟩
 ·exact ⟨ao, n, c, 1, rfl, h'⟩
set_option maxRecDepth 100000 in
theorem outside_any (ao : Option Addr) (n cap : Nat) (L : List K.En) (p : Pv) (w : World) (hS : K.ESrc w ao n cap L) (hP : PSrc w p) :
  Calls Tryz.prog 32 #[.slice ao n cap, PV p] w fun x w' => PtA w w' x L p.P false := by
 have b1 := below_new w (.cells (PC p) 26)
 have x1 := pbox_new w p
 obtain ⟨w1, hw1⟩ : ∃ w1, w.alloc (.cells (PC p) 26) = w1 := ⟨_, rfl⟩
 obtain ⟨g1, hg1⟩ : ∃ g1, w.heap.size = g1 := ⟨_, rfl⟩
 rw [hw1] at b1 x1
 rw [hg1] at x1
 have l1 := run_ldP x1.at
 have HB := hide b1
 have HC := hide (parted_any ao n cap L p false w1 (hS.below b1) (hP.below b1))
 clear b1 x1 hS hP
 go_enter Tryz.func32, Tryz.ntmps32
 go_wp2_with fail
 clear hw1 hg1
 refine HC.out.mono ?_
 rintro x w2 hx
 obtain ⟨bo, m, c, er, rfl, hE⟩ := (PtA.pre HB.out hx).shape
 have HE := hide hE
 clear hx hE
 go_wp2_with fail
 go_ret2
 exact HE.out
end Go.Proofs.YtmbkmpeongodbaaGreat
namespace Go.Proofs.YtmbkmpeongodbaaGreat
open Go.RowKit
attribute [local go_sem ↓] ldP_eq stP_eq ldD_eq stD_eq K.ld28_eq K.st28_eq
attribute [local go_sem] cells_PV PC_size
variable {w w' w2 W W' : World} {g : Nat}

def dotOf (e : K.En) : Rn := ⟨e.rep, e.num⟩
def DtA (w w' : World) (x : Ending) (L : List K.En) : Prop := Below w.heap.size w w' ∧ ((K.chk L = 0 ∧ ∃ p : Pv, x = .returned (.tuple #[PV p, .int .i64 0]) ∧ PSrc w' p ∧ PNew w.heap.size p ∧ CanonOf (dotsG (L.map dotOf)) p.P) ∨ (¬ K.chk L = 0 ∧ x = .returned (.tuple #[PV pv0, .int .i64 1])))
theorem res2Pn {fn : Func} {p q : Tmp} {m : Pv} {v : Value} (h : fn.results = #[.cell p 26, .tmp q]) {tmps : Array Value} (hp : tmps.getD p undef = .pointer (some ⟨g, 0, none⟩)) (hq : tmps.getD q undef = v) (A : PBox w g m) :
  (results fn tmps).run Tryz.prog w = .ok (.tuple #[PV m, v]) w := by
 have hl := run_lvP A.at
 simp only [results, h]
 rw [Array.getD_eq_getD_getElem?] at hp hq
 simp [hp, hq, asAddr, hl]
set_option maxRecDepth 100000 in
set_option maxHeartbeats 3200000 in
theorem dots_any (ao : Option Addr) (n cap : Nat) (L : List K.En) (w : World) (hS : K.ESrc w ao n cap L) : Calls Tryz.prog 112 #[.slice ao n cap] w fun x w' => DtA w w' x L := by
 have b1 := below_new w (.cells #[.slice none 0 0, .slice none 0 0] 26)
 have x1 : PBox (w.alloc (.cells #[.slice none 0 0, .slice none 0 0] 26)) w.heap.size pv0 := pbox_new w pv0
 obtain ⟨w1, hw1⟩ : ∃ w1, w.alloc (.cells #[.slice none 0 0, .slice none 0 0] 26) = w1 := ⟨_, rfl⟩
 obtain ⟨g1, hg1⟩ : ∃ g1, w.heap.size = g1 := ⟨_, rfl⟩
 rw [hw1] at b1 x1
 rw [hg1] at x1
 have HX : Hid (PBox w1 g1 pv0 ∧ K.ESrc w1 ao n cap L ∧ Below w.heap.size w w1 ∧ w.heap.size = g1) := ⟨x1, hS.below b1, b1, hg1⟩
 have HL : Hid (L.length = n ∧ n ≤ 3518437208883) := ⟨hS.1, hS.2.2.2.2⟩
 have hnb := HL.out.2
 clear b1 x1 hS
 go_enter Tryz.func112, Tryz.ntmps112
 go_wp2_with fail
 clear hw1 hg1
 refine (K.lcheck_any ao n cap L _ HX.out.2.1).mono ?_
 rintro x w2 ⟨rfl, b2⟩
 have HB2 := hide (HX.out.2.2.1.trans (b2.mono HX.out.2.2.1.size))
 have HX2 : Hid (PBox w2 g1 pv0 ∧ K.ESrc w2 ao n cap L ∧ w.heap.size = g1) := ⟨HX.out.1.below b2, HX.out.2.1.below b2, HX.out.2.2.2⟩
 clear b2 HX
 rcases K.chk_cases L with hc | hc
 rotate_left
 ·have HE : Hid (DtA w (w2.setRow g1 (PC pv0)) (.returned (.tuple #[PV pv0, .int .i64 1])) L) := ⟨below_setRow HB2.out (by have := HX2.out.2.2; omega), .inr ⟨by rw [hc]; decide, rfl⟩⟩
  have t6 : (stP (.pointer (some ⟨g1, 0, none⟩)) (.agg #[.slice none 0 0, .slice none 0 0])).run Tryz.prog w2 = .ok () (w2.setRow g1 (PC pv0)) := run_stP (p' := pv0) HX2.out.1
  have HX0 : Hid (PBox (w2.setRow g1 (PC pv0)) g1 pv0) := setRow_heap _ _ _ _ _ _ HX2.out.1
  rw [hc]
  clear hc
  go_wp2_with fail
  refine bodyPost_ret (res2Pn rfl rfl rfl HX0.out) rfl ?_
  exact HE.out
 ·rw [hc]
  have HC := hide hc
  clear hc
  go_wp2_with fail
  go_loopw [5, 16] (fun v i wr => ∃ (k : Nat) (ap : Option Addr) (c : Nat), k ≤ n ∧ v = .slice ap k c ∧ i = .int .i64 (k : Int) ∧ Hid (OwnD w2.heap.size w2.heap.size w2 wr ap c ((L.take k).map dotOf))) (fun _ i _ => n - (intOf i).toNat)
  case atStart => exact ⟨0, none, 0, Nat.zero_le _, rfl, rfl, World.ownsRow_nil _ _ _ _, Below.refl _ _, Nat.le_refl _, Nat.le_refl _⟩
  case round =>
   obtain ⟨k, ap, c, hk, rfl, rfl, HO⟩ := hrel
   rename World => wr
   obtain ⟨acc, Hacc⟩ : ∃ acc, Hid ((L.take k).map dotOf = acc) := ⟨_, rfl⟩
   have Hal : Hid (acc.length = k) := by show _ = _; rw [← Hacc.out, List.length_map, List.length_take]; have := HL.out.1; omega
   rw [Hacc.out] at HO
   by_cases hlt : k < n
   ·have hlti : (k : Int) < (n : Int) := by omega
    obtain ⟨ad, hao, A0⟩ := (HX2.out.2.1.below HO.out.below).at k hlt
    subst hao
    obtain ⟨e, He⟩ : ∃ e, Hid (L.getD k K.en0 = e) := ⟨_, rfl⟩
    rw [He.out] at A0
    have hld := K.run_ld28 A0
    have HT := hide (K.take_snoc L k (by rw [HL.out.1]; exact hlt))
    rw [He.out] at HT
    have HN : Hid ((L.take (k + 1)).map dotOf = acc ++ [dotOf e]) := by show _ = _; rw [HT.out, List.map_append, Hacc.out]; rfl
    obtain ⟨g7, hg7⟩ : ∃ g7, wr.heap.size = g7 := ⟨_, rfl⟩
    obtain ⟨w7, hst, X7, B7, -⟩ := K.made wr e g7 hg7
    replace hst : (K.st28 (.pointer (some ⟨g7, 0, none⟩)) (K.EV e)).run Tryz.prog (wr.alloc (.cells #[.int .i64 0, .int .i64 0, .string ⟨#[]⟩, .int .i64 0] 46)) = .ok () w7 := hst
    have HO7 := hide (HO.out.later B7)
    have l7 : (ldD (.pointer (some ⟨g7, 0, none⟩))).run Tryz.prog w7 = .ok (.agg #[.int .i64 e.rep, .int .i64 e.num]) w7 := run_ldD (enc_dot X7)
    have Hlt := hide hlt
    clear A0 X7 B7 hlt
    go_wp2_with (at_builtin; go_loud (refine (HO7.out.later (below_new w7 _)).appendS [dotOf e] (some ⟨w7.heap.size, 0, none⟩) 1 1 (lit_rsrc w7 [dotOf e] _ rfl 44 1 rfl (by omega)) (by have := Hal.out; have := Hlt.out; omega) rfl (.tmp 20) (.tmp 23) rfl k Hal.out rfl rfl ?_); intro ao8 c8 w8 O8; have HO8 := hide O8; clear O8)
    clear hst hg7 hld
    go_roundw
    case rel => exact ⟨k + 1, ao8, c8, Hlt.out, rfl, by simp, by show OwnD _ _ _ _ _ _ _; rw [HN.out]; exact HO8.out⟩
    case measure => simp [intOf]; have := Hlt.out; omega
   ·have hlti : ¬ (k : Int) < (n : Int) := by omega
    obtain rfl : k = n := by omega
    have HAc : Hid (acc = L.map dotOf) := by show _ = _; rw [← Hacc.out, List.take_of_length_le (by have := HL.out.1; omega)]
    obtain ⟨hsr, hnw⟩ := HO.out.src (by have := Hal.out; omega)
    have hsr2 : RSrc wr ap k c acc := by have := Hal.out; rw [this] at hsr; exact hsr
    have HC7 := hide (pastOfN_any ap k c acc wr hsr2)
    have HBr := hide (HB2.out.trans (HO.out.below.mono HB2.out.size))
    have HXr := hide (HX2.out.1.below HO.out.below)
    have HG : Hid (w.heap.size = g1 ∧ g1 < wr.heap.size) := ⟨HX2.out.2.2, HXr.out.lt⟩
    clear hsr hnw hsr2
    go_wp2_with fail
    refine HC7.out.mono ?_
    rintro x w8 ⟨p, rfl, S8, n8, b8, c8⟩
    have X8 := HXr.out.below b8
    have t8 := run_stP (p' := p) X8
    have HX8 : Hid (PBox (w8.setRow g1 (PC p)) g1 p) := setRow_heap _ _ _ _ _ _ X8
    have HE : Hid (DtA w (w8.setRow g1 (PC p)) (.returned (.tuple #[PV p, .int .i64 0])) L) := by
     have hb := HBr.out.trans (b8.mono HBr.out.size)
     refine ⟨below_setRow hb (by have := HG.out; omega), .inl ⟨HC.out, p, rfl, psrc_off S8 (fun ad h => setRow_other _ _ _ _ (by have := n8.1 ad h; have := HG.out; omega)) (fun ad h => setRow_other _ _ _ _ (by have := n8.2 ad h; have := HG.out; omega)), n8.mono (by have := HG.out; omega), by rw [← HAc.out]; exact c8⟩⟩
    clear S8 n8 b8 c8 X8 HC7
    go_wp2_with fail
    refine bodyPost_ret (res2Pn rfl rfl rfl HX8.out) rfl ?_
    exact HE.out
end Go.Proofs.YtmbkmpeongodbaaGreat
namespace Go.Proofs.YtmbkmpeongodbaaGreat

def tin (t : List Int) (n : Int) : Bool := decide (cnt t n % 2 = 1)
def rul (k : Int) (x y : Bool) : Bool := (k == 1 && x && y) || (k == 2 && x && !y)
structure CbI (k : Int) (A B : List Int) (i j : Nat) (t : List Int) (b : Bool) : Prop where
 hi : i ≤ A.length
 hj : j ≤ B.length
 tr : t.Pairwise (· < ·)
 tl : ∀ x, x ∈ t → x ∈ A.take i ++ B.take j
 lt : ∀ x, x ∈ A.take i ++ B.take j → ∀ y, y ∈ A.drop i ++ B.drop j → x < y
 ev : ∀ n, tin t n = rul k (tin (A.take i) n) (tin (B.take j) n)
 nw : b = decide (t.length % 2 = 1)
def CombOf (k : Int) (a b c : List Rn) : Prop := form 1 c ∧ ∀ n, mem c n ↔ ((k = 1 ∧ mem a n ∧ mem b n) ∨ (k = 2 ∧ mem a n ∧ ¬ mem b n))
end Go.Proofs.YtmbkmpeongodbaaGreat
