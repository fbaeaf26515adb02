/- BFo ODt BDs LPu LLtr LSrt -/
import Derived.Test.YtmbkmpeongodbaaGreatAj21
import Derived.Test.YtmbkmpeongodbaaGreatAj23
import Derived.Test.YtmbkmpeongodbaaGreatAj14
import Derived.Deep.CutRange
import Derived.Test.YtmbkmpeongodbaaGreatAj20
import Derived.Test.YtmbkmpeongodbaaGreatAj19
import Derived.Below
import Derived.Test.YtmbkmpeongodbaaGreatAj18
import Derived.Laws.MakeOwn
import Derived.Deep.LoopGhost
namespace Go.Proofs.YtmbkmpeongodbaaGreat
open Go.RowKit Go.Maps Go.Sort
attribute [local go_sem ↓] ldP_eq stP_eq ldRe_eq stRe_eq
attribute [local go_sem] cells_ReV ReC_size zero_ReC
def MF (w W : World) (kk : Nat) (R : List Rc) : Prop := ∃ f, MRo Tryz.prog 9 26 2 (w.heap.size + 1) w W w.heap.size kk (fun s => ∃ r ∈ R, r.s = s) f (fun s => pvs (ofS R s))
def TxS (w : World) (ao : Option Addr) (m : Nat) (T : List (List UInt8)) : Prop :=
 T.length = m ∧ ∀ t, t < m → ∃ ad, ao = some ad ∧ w.cell? (ad.add t) = some (encStr (T.getD t []))
theorem GivesSs.src {w w' : World} {e : Ending} {T : List (List UInt8)} (h : GivesSs w w' e T) : ∃ ao c, e = .returned (.slice ao T.length c) ∧ TxS w' ao T.length T ∧ Below w.heap.size w w' := by
 obtain ⟨v, rfl, hr, hb⟩ := h
 rcases hr.2 with ⟨h0, h00⟩ | ⟨g, cap, cur, hv, hbg, hgg, hnc, hcm, hcsz, htake⟩
 ·refine ⟨none, 0, by rw [h0, h00], ⟨rfl, fun t ht => ?_⟩, hb⟩
  omega
 ·subst hv
  refine ⟨some ⟨g, 0, none⟩, cap, rfl, ⟨rfl, fun t ht => ⟨_, rfl, ?_⟩⟩, hb⟩
  rw [Addr.add_lit, Nat.zero_add, hr.cellAt t (by omega)]
  simp [List.getD, ht]
def FoA (w w' : World) (x : Ending) (L : List Rc) (n : Nat) : Prop := (OkR L n ∧ ∃ (h : Hs) (F : List Rc), x = .returned (.tuple #[HsV h, .int .i64 0]) ∧ RcS w' h.o h.n h.c F ∧ Below w.heap.size w w' ∧ (∀ ad, h.o = some ad → w.heap.size ≤ ad.block) ∧ FoldOf L F) ∨ (¬ OkR L n ∧ x = .returned (.tuple #[.slice none 0 0, .int .i64 1]) ∧ Below w.heap.size w w')
end Go.Proofs.YtmbkmpeongodbaaGreat
namespace Go.Proofs.YtmbkmpeongodbaaGreat
open Go.RowKit
attribute [local go_sem ↓] ldP_eq stP_eq ldD_eq stD_eq K.ld28_eq K.st28_eq
attribute [local go_sem] cells_PV PC_size
variable {w w' w2 W W' : World} {g : Nat}

def dotOf (e : K.En) : Rn := ⟨e.rep, e.num⟩
def DtA (w w' : World) (x : Ending) (L : List K.En) : Prop := Below w.heap.size w w' ∧ ((K.chk L = 0 ∧ ∃ p : Pv, x = .returned (.tuple #[PV p, .int .i64 0]) ∧ PSrc w' p ∧ PNew w.heap.size p ∧ CanonOf (dotsG (L.map dotOf)) p.P) ∨ (¬ K.chk L = 0 ∧ x = .returned (.tuple #[PV pv0, .int .i64 1])))
theorem res2Pn {fn : Func} {p q : Tmp} {m : Pv} {v : Value} (h : fn.results = #[.cell p 26, .tmp q]) {tmps : Array Value} (hp : tmps.getD p undef = .pointer (some ⟨g, 0, none⟩)) (hq : tmps.getD q undef = v) (A : PBox w g m) :
  (results fn tmps).run Tryz.prog w = .ok (.tuple #[PV m, v]) w := by
 have hl := run_lvP A.at
 simp only [results, h]
 rw [Array.getD_eq_getD_getElem?] at hp hq
 simp [hp, hq, asAddr, hl]
set_option maxRecDepth 100000 in
set_option maxHeartbeats 3200000 in
theorem dots_any (ao : Option Addr) (n cap : Nat) (L : List K.En) (w : World) (hS : K.ESrc w ao n cap L) : Calls Tryz.prog 112 #[.slice ao n cap] w fun x w' => DtA w w' x L := by
 have b1 := below_new w (.cells #[.slice none 0 0, .slice none 0 0] 26)
 have x1 : PBox (w.alloc (.cells #[.slice none 0 0, .slice none 0 0] 26)) w.heap.size pv0 := pbox_new w pv0
 obtain ⟨w1, hw1⟩ : ∃ w1, w.alloc (.cells #[.slice none 0 0, .slice none 0 0] 26) = w1 := ⟨_, rfl⟩
 obtain ⟨g1, hg1⟩ : ∃ g1, w.heap.size = g1 := ⟨_, rfl⟩
 rw [hw1] at b1 x1
 rw [hg1] at x1
 have HX : Hid (PBox w1 g1 pv0 ∧ K.ESrc w1 ao n cap L ∧ Below w.heap.size w w1 ∧ w.heap.size = g1) := ⟨x1, hS.below b1, b1, hg1⟩
 have HL : Hid (L.length = n ∧ n ≤ 3518437208883) := ⟨hS.1, hS.2.2.2.2⟩
 have hnb := HL.out.2
 clear b1 x1 hS
 go_enter Tryz.func112, Tryz.ntmps112
 go_wp2_with fail
 clear hw1 hg1
 refine (K.lcheck_any ao n cap L _ HX.out.2.1).mono ?_
 rintro x w2 ⟨rfl, b2⟩
 have HB2 := hide (HX.out.2.2.1.trans (b2.mono HX.out.2.2.1.size))
 have HX2 : Hid (PBox w2 g1 pv0 ∧ K.ESrc w2 ao n cap L ∧ w.heap.size = g1) := ⟨HX.out.1.below b2, HX.out.2.1.below b2, HX.out.2.2.2⟩
 clear b2 HX
 rcases K.chk_cases L with hc | hc
 rotate_left
 ·have HE : Hid (DtA w (w2.setRow g1 (PC pv0)) (.returned (.tuple #[PV pv0, .int .i64 1])) L) := ⟨below_setRow HB2.out (by have := HX2.out.2.2; omega), .inr ⟨by rw [hc]; decide, rfl⟩⟩
  have t6 : (stP (.pointer (some ⟨g1, 0, none⟩)) (.agg #[.slice none 0 0, .slice none 0 0])).run Tryz.prog w2 = .ok () (w2.setRow g1 (PC pv0)) := run_stP (p' := pv0) HX2.out.1
  have HX0 : Hid (PBox (w2.setRow g1 (PC pv0)) g1 pv0) := setRow_heap _ _ _ _ _ _ HX2.out.1
  rw [hc]
  clear hc
  go_wp2_with fail
  refine bodyPost_ret (res2Pn rfl rfl rfl HX0.out) rfl ?_
  exact HE.out
 ·rw [hc]
  have HC := hide hc
  clear hc
  go_wp2_with fail
  go_loopw [5, 16] (fun v i wr => ∃ (k : Nat) (ap : Option Addr) (c : Nat), k ≤ n ∧ v = .slice ap k c ∧ i = .int .i64 (k : Int) ∧ Hid (OwnD w2.heap.size w2.heap.size w2 wr ap c ((L.take k).map dotOf))) (fun _ i _ => n - (intOf i).toNat)
  case atStart => exact ⟨0, none, 0, Nat.zero_le _, rfl, rfl, World.ownsRow_nil _ _ _ _, Below.refl _ _, Nat.le_refl _, Nat.le_refl _⟩
  case round =>
   obtain ⟨k, ap, c, hk, rfl, rfl, HO⟩ := hrel
   rename World => wr
   obtain ⟨acc, Hacc⟩ : ∃ acc, Hid ((L.take k).map dotOf = acc) := ⟨_, rfl⟩
   have Hal : Hid (acc.length = k) := by show _ = _; rw [← Hacc.out, List.length_map, List.length_take]; have := HL.out.1; omega
   rw [Hacc.out] at HO
   by_cases hlt : k < n
   ·have hlti : (k : Int) < (n : Int) := by omega
    obtain ⟨ad, hao, A0⟩ := (HX2.out.2.1.below HO.out.below).at k hlt
    subst hao
    obtain ⟨e, He⟩ : ∃ e, Hid (L.getD k K.en0 = e) := ⟨_, rfl⟩
    rw [He.out] at A0
    have hld := K.run_ld28 A0
    have HT := hide (K.take_snoc L k (by rw [HL.out.1]; exact hlt))
    rw [He.out] at HT
    have HN : Hid ((L.take (k + 1)).map dotOf = acc ++ [dotOf e]) := by show _ = _; rw [HT.out, List.map_append, Hacc.out]; rfl
    obtain ⟨g7, hg7⟩ : ∃ g7, wr.heap.size = g7 := ⟨_, rfl⟩
    obtain ⟨w7, hst, X7, B7, -⟩ := K.made wr e g7 hg7
    replace hst : (K.st28 (.pointer (some ⟨g7, 0, none⟩)) (K.EV e)).run Tryz.prog (wr.alloc (.cells #[.int .i64 0, .int .i64 0, .string ⟨#[]⟩, .int .i64 0] 46)) = .ok () w7 := hst
    have HO7 := hide (HO.out.later B7)
    have l7 : (ldD (.pointer (some ⟨g7, 0, none⟩))).run Tryz.prog w7 = .ok (.agg #[.int .i64 e.rep, .int .i64 e.num]) w7 := run_ldD (enc_dot X7)
    have Hlt := hide hlt
    clear A0 X7 B7 hlt
    go_wp2_with (at_builtin; go_loud (refine (HO7.out.later (below_new w7 _)).appendS [dotOf e] (some ⟨w7.heap.size, 0, none⟩) 1 1 (lit_rsrc w7 [dotOf e] _ rfl 44 1 rfl (by omega)) (by have := Hal.out; have := Hlt.out; omega) rfl (.tmp 20) (.tmp 23) rfl k Hal.out rfl rfl ?_); intro ao8 c8 w8 O8; have HO8 := hide O8; clear O8)
    clear hst hg7 hld
    go_roundw
    case rel => exact ⟨k + 1, ao8, c8, Hlt.out, rfl, by simp, by show OwnD _ _ _ _ _ _ _; rw [HN.out]; exact HO8.out⟩
    case measure => simp [intOf]; have := Hlt.out; omega
   ·have hlti : ¬ (k : Int) < (n : Int) := by omega
    obtain rfl : k = n := by omega
    have HAc : Hid (acc = L.map dotOf) := by show _ = _; rw [← Hacc.out, List.take_of_length_le (by have := HL.out.1; omega)]
    obtain ⟨hsr, hnw⟩ := HO.out.src (by have := Hal.out; omega)
    have hsr2 : RSrc wr ap k c acc := by have := Hal.out; rw [this] at hsr; exact hsr
    have HC7 := hide (pastOfN_any ap k c acc wr hsr2)
    have HBr := hide (HB2.out.trans (HO.out.below.mono HB2.out.size))
    have HXr := hide (HX2.out.1.below HO.out.below)
    have HG : Hid (w.heap.size = g1 ∧ g1 < wr.heap.size) := ⟨HX2.out.2.2, HXr.out.lt⟩
    clear hsr hnw hsr2
    go_wp2_with fail
    refine HC7.out.mono ?_
    rintro x w8 ⟨p, rfl, S8, n8, b8, c8⟩
    have X8 := HXr.out.below b8
    have t8 := run_stP (p' := p) X8
    have HX8 : Hid (PBox (w8.setRow g1 (PC p)) g1 p) := setRow_heap _ _ _ _ _ _ X8
    have HE : Hid (DtA w (w8.setRow g1 (PC p)) (.returned (.tuple #[PV p, .int .i64 0])) L) := by
     have hb := HBr.out.trans (b8.mono HBr.out.size)
     refine ⟨below_setRow hb (by have := HG.out; omega), .inl ⟨HC.out, p, rfl, psrc_off S8 (fun ad h => setRow_other _ _ _ _ (by have := n8.1 ad h; have := HG.out; omega)) (fun ad h => setRow_other _ _ _ _ (by have := n8.2 ad h; have := HG.out; omega)), n8.mono (by have := HG.out; omega), by rw [← HAc.out]; exact c8⟩⟩
    clear S8 n8 b8 c8 X8 HC7
    go_wp2_with fail
    refine bodyPost_ret (res2Pn rfl rfl rfl HX8.out) rfl ?_
    exact HE.out
end Go.Proofs.YtmbkmpeongodbaaGreat
namespace Go.Proofs.YtmbkmpeongodbaaGreat
open Go.RowKit Go.Maps Go.Sort
attribute [local go_sem ↓] ldD_eq stD_eq K.ld28_eq K.st28_eq
attribute [local go_sem] K.cells_EV K.EC_size
def dotsS (L : List K.En) (s : ByteArray) : List Rn := (L.filter (fun e => decide (s.size = 0) || decide (e.sku = s))).map dotOf
def nilB : ByteArray := ⟨#[]⟩
def MD (w W : World) (kk : Nat) (L : List K.En) : Prop := ∃ K f, MRo Tryz.prog 9 44 2 (w.heap.size + 1) w W w.heap.size kk K f (fun s => rcs (dotsS L s))
theorem MRo.len {w W : World} {b B k : Nat} {K0 : ByteArray → Prop} {f : ByteArray → Hs} {L : List K.En} (M : MRo Tryz.prog 9 44 2 B w W b k K0 f (fun s => rcs (dotsS L s))) (s : ByteArray) : (f s).n = (dotsS L s).length := by
 have h := (M.rows s).1
 rw [rcs_length] at h
 omega
end Go.Proofs.YtmbkmpeongodbaaGreat
namespace Go.Proofs.YtmbkmpeongodbaaGreat.K


def Chunked {α : Type} (le : α → α → Prop) (w : Nat) (L : List α) : Prop := ∀ q, ((L.drop (q * w)).take w).Pairwise le
def mrg {α : Type} (le : α → α → Bool) (L : List α) (i mid j en : Nat) : List α := List.merge ((L.drop i).take (mid - i)) ((L.drop j).take (en - j)) le
structure Pass {α : Type} (le : α → α → Bool) (L M : List α) (n q f t : Nat) : Prop where
 hf : f = 2 * t * q
 hl : M.length = min f n
 hp : M.Perm (L.take f)
 hc : Chunked (fun x y => le x y = true) (2 * q) M
end Go.Proofs.YtmbkmpeongodbaaGreat.K
namespace Go.Proofs.YtmbkmpeongodbaaGreat.K
open Go.RowKit
attribute [local go_sem ↓] ld28_eq st28_eq ld26_eq
attribute [local go_sem] zero_EC cells_EV EC_size
def leE (x y : En) : Bool := !ahead y x
end Go.Proofs.YtmbkmpeongodbaaGreat.K
namespace Go.Proofs.YtmbkmpeongodbaaGreat.K
open Go.RowKit
attribute [local go_sem ↓] ld28_eq st28_eq
attribute [local go_sem] zero_EC cells_EV EC_size
attribute [local go_sem] fold_EC
def mk22 (a b : Value) : Sem Value := Instr.makeSlice 22 a b
theorem mk22_eq (a b : Value) : Instr.makeSlice 22 a b = mk22 a b := rfl
attribute [local go_sem ↓] mk22_eq
def InOrder (L R : List En) : Prop := R.Perm L ∧ R.Pairwise (fun x y => leE x y = true)
def GivesS (w w' : World) (e : Ending) (L : List En) : Prop := ∃ R, InOrder L R ∧ GivesE w w' e R
end Go.Proofs.YtmbkmpeongodbaaGreat.K

