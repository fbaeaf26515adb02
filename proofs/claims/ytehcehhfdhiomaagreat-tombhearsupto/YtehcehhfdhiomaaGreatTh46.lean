/- TLv TAw PVw LView TVf -/
import Derived.Test.YtehcehhfdhiomaaGreatTh37
import Derived.Test.YtehcehhfdhiomaaGreatTh45
import Derived.Test.YtehcehhfdhiomaaGreatTh25
import Derived.Test.YtehcehhfdhiomaaGreatTh29
import Derived.Test.YtehcehhfdhiomaaGreatTh43
import Derived.Test.YtehcehhfdhiomaaGreatTh01
import Derived.ProofKit
import Derived.OpenShut
import Derived.Lib.SmallJoins
import Derived.HandedShaped
import Derived.SizedLaws
import Derived.ChangeMaps5
import Derived.JoinedCond
import Derived.Test.YtehcehhfdhiomaaGreatTh18
namespace Go.Proofs.YtehcehhfdhiomaaGreat
open Go.RowKit
attribute [local go_sem ↓] ldP_eq stP_eq ldFa_eq stFa_eq
attribute [local go_sem] cells_PV PC_size cells_FaV FaC_size
def liveL (f : Fc) : List K.En := (f.es.filter (pkB f.p.P false)).filter (freeB f.rs)
def LvA (w w' : World) (x : Ending) (f : Fc) : Prop := (FormF f ∧ K.GivesEE w w' x (liveL f) 0) ∨ (¬ FormF f ∧ K.GivesEE w w' x [] 1)
theorem chk_filter {L : List K.En} (h : K.chk L = 0) (p : K.En → Bool) : K.chk (L.filter p) = 0 :=
 K.chk_asc (List.Pairwise.filter p (K.chk_asc' h)) (fun e he => chk_ce h e (List.mem_filter.1 he).1)
theorem GivesEE.mono0 {w w0 w' : World} {x : Ending} {L : List K.En} {er : Int} (h : K.GivesEE w w' x L er) (hb : Below w0.heap.size w0 w) : K.GivesEE w0 w' x L er := by
 obtain ⟨ao, n, c, h1, h2, h3, h4⟩ := h
 exact ⟨ao, n, c, h1, h2, hb.trans (h3.mono hb.size), fun ad e => Nat.le_trans hb.size (h4 ad e)⟩
set_option maxRecDepth 100000 in
theorem tLive_any (f : Fc) (w : World) (hF : FcOk w f) (hwt : ∀ s, wt (ofS f.rs s) ≤ 8796093022207) (hnm : f.rn * (f.an + 1) ≤ 8796093022207) :
  Calls Tryz.prog 12 #[FaV (mkF f)] w fun e w' => LvA w w' e f := by
 have HX := hide (FaBox_new w (mkF f))
 have HBK := hide (below_new w (.cells (FaC (mkF f)) 29))
 have HS := hide (hF.below HBK.out)
 have HW := hide (And.intro hwt hnm)
 clear hF hwt hnm
 obtain ⟨wk, hwk⟩ : ∃ wk, w.alloc (.cells (FaC (mkF f)) 29) = wk := ⟨_, rfl⟩
 obtain ⟨G, hG⟩ : ∃ G, w.heap.size = G := ⟨_, rfl⟩
 rw [hwk] at HX HBK HS
 rw [hG] at HX
 obtain ⟨c0, c3⟩ := HX.out.cs
 have lp := run_ldP HX.out.past
 go_enter Tryz.func12, Tryz.ntmps12
 go_wp2_with fail
 clear hwk hG
 refine (outside_any f.ao f.an f.ac f.es f.p _ HS.out.es HS.out.p).mono ?_
 rintro e w1 h1
 rcases h1 with ⟨h1, h2, ao, n, c, rfl, S1, b1, n1⟩ | ⟨h1, ao, n, c, rfl, S1, b1, n1⟩
 rotate_left
 ·have HE : Hid (LvA w w1 (.returned (.tuple #[.slice none 0 0, .int .i64 1])) f) := .inr ⟨fun h => h1 ⟨(chk_okN HS.out.es.1).2 h.1, h.2.1⟩, none, 0, 0, rfl, esrc_nil _, HBK.out.trans (b1.mono HBK.out.size), fun ad e => (by cases e)⟩
  clear h1 S1 b1 n1 c0 c3 lp
  go_wp2_with fail
  go_ret2
  exact HE.out
 have HC : Hid (K.chk f.es = 0 ∧ InForm f.p.P) := ⟨h1, h2⟩
 have HB1 := hide (HBK.out.trans (b1.mono HBK.out.size))
 have HX1 := hide (HX.out.below b1)
 have HS1 := hide (HS.out.below b1)
 have HL1 := hide S1
 have hlen : (f.es.filter (pkB f.p.P false)).length = n := S1.1
 have hle : n ≤ f.an := by rw [← hlen, ← HS.out.es.1]; exact List.length_filter_le _ _
 have HM : Hid (f.rn * (n + 1) ≤ 8796093022207) := Nat.le_trans (Nat.mul_le_mul_left _ (by omega)) HW.out.2
 clear h1 h2 S1 b1 n1 c0 c3 lp hlen hle
 obtain ⟨-, c3⟩ := HX1.out.cs
 go_wp2_with fail
 clear c3
 refine (apply_any ao f.ro n c f.rn f.rc _ f.rs _ HL1.out HS1.out.rs HW.out.1 HM.out).mono ?_
 rintro e w2 h2
 rcases h2 with ⟨-, h2, h3⟩ | ⟨h2, h3⟩
 ·have HE : Hid (LvA w w2 e f) := .inl ⟨⟨(chk_okN HS.out.es.1).1 HC.out.1, HC.out.2, h2⟩, GivesEE.mono0 h3 HB1.out⟩
  obtain ⟨a2, n2, c2, rfl, -, -, -⟩ := h3
  clear h2
  go_wp2_with fail
  go_ret2
  exact HE.out
 ·have HE : Hid (LvA w w2 e f) := .inr ⟨fun h => h2 ⟨chk_filter HC.out.1 _, h.2.2⟩, GivesEE.mono0 h3 HB1.out⟩
  obtain ⟨a2, n2, c2, rfl, -, -, -⟩ := h3
  clear h2
  go_wp2_with fail
  go_ret2
  exact HE.out
end Go.Proofs.YtehcehhfdhiomaaGreat
namespace Go.Proofs.YtehcehhfdhiomaaGreat
open Go.RowKit
def FcS (w w' : World) (e : Ending) (D : Fc → Prop) : Prop := ∃ f, e = .returned (FaV (mkF f)) ∧ FcOk w' f ∧ FcR f ∧ FcN w.heap.size f ∧ Below w.heap.size w w' ∧ D f
theorem give_fs {w W : World} {g : Nat} {m0 : FacV} {f : Fc} (D : Fc → Prop) (hX : FaBox W g m0) (hF : FcOk W f) (hr : FcR f) (hn : FcN (g + 1) f) (hb : Below w.heap.size w W) (hg : w.heap.size ≤ g) (hD : D f) :
  FaBox (W.setRow g (FaC (mkF f))) g (mkF f) ∧ FcS w (W.setRow g (FaC (mkF f))) (.returned (FaV (mkF f))) D :=
 ⟨hX.setRow, f, rfl, hF.off2 hn (fun k hk => setRow_other _ _ _ _ (by omega)), hr, hn.mono (by omega), below_setRow hb hg, hD⟩
def aw1 : K.En := ⟨0, 1, ⟨#[65]⟩, 5⟩
def aw2 : K.En := ⟨0, 2, ⟨#[66]⟩, 2⟩
def aw3 : K.En := ⟨1, 1, ⟨#[65]⟩, 1⟩
def awP : Pst := ⟨[1], []⟩
def awQ : Pst := ⟨[0, 2], []⟩
theorem resE1 {fn : Func} {p : Tmp} {w : World} {g : Nat} {T : TypeId} {e : K.En} (h : fn.results = #[.cell p 48]) {tmps : Array Value} (hp : tmps.getD p undef = .pointer (some ⟨g, 0, none⟩)) (A : K.Box w g T e) :
  (results fn tmps).run Tryz.prog w = .ok (K.EV e) w := by
 have hl := K.run_lv28 A.at
 simp only [results, h]
 rw [Array.getD_eq_getD_getElem?] at hp
 simp [hp, asAddr, hl]
def bsE3 (a : Array (Nat × Value)) : Sem Value := Instr.buildSlice 22 3 a
theorem bsE3_eq (a : Array (Nat × Value)) : Instr.buildSlice 22 3 a = bsE3 a := rfl
def awC : Array Value := #[.int .i64 0, .int .i64 1, .string ⟨#[65]⟩, .int .i64 5, .int .i64 0, .int .i64 2, .string ⟨#[66]⟩, .int .i64 2, .int .i64 1, .int .i64 1, .string ⟨#[65]⟩, .int .i64 1]
theorem run_bsE3 (w : World) : (bsE3 #[(0, K.EV aw1), (1, K.EV aw2), (2, K.EV aw3)]).run Tryz.prog w = .ok (.slice (some ⟨w.heap.size, 0, none⟩) 3 3) (w.alloc (.cells awC 48)) := by kernel_rfl
theorem run_bldF01 (a v : Option Addr) (n c m d : Nat) (w : World) : (bldF #[(0, .slice a n c), (1, .agg #[.slice v m d, .slice none 0 0])]).run Tryz.prog w = .ok (.agg #[.slice a n c, .slice v m d, .slice none 0 0, .slice none 0 0]) w := by kernel_rfl
theorem run_bldF2 (a : Option Addr) (n c : Nat) (w : World) : (bldF #[(2, .slice a n c)]).run Tryz.prog w = .ok (.agg #[.slice none 0 0, .slice none 0 0, .slice none 0 0, .slice a n c]) w := by kernel_rfl
def bsR1 (a : Array (Nat × Value)) : Sem Value := Instr.buildSlice 27 1 a
theorem bsR1_eq (a : Array (Nat × Value)) : Instr.buildSlice 27 1 a = bsR1 a := rfl
theorem run_bsR1 (s : ByteArray) (a : Option Addr) (n c : Nat) (w : World) : (bsR1 #[(0, .agg #[.string s, .slice a n c, .slice none 0 0])]).run Tryz.prog w = .ok (.slice (some ⟨w.heap.size, 0, none⟩) 1 1) (w.alloc (.cells #[.string s, .slice a n c, .slice none 0 0] 76)) := by kernel_rfl
theorem awC_src (w : World) (g : Nat) (hg : w.heap.size = g) : K.ESrc (w.alloc (.cells awC 48)) (some ⟨g, 0, none⟩) 3 3 [aw1, aw2, aw3] := by
 subst hg
 refine ⟨rfl, (fun h => by cases h), fun ad h t ht => ?_, ?_, (show (3 : Nat) ≤ 3518437208883 by decide)⟩
 ·obtain rfl := Option.some.inj h
  have h1 := heap_alloc_new w (.cells awC 48)
  have ht2 : t < 3 := ht
  generalize w.alloc (.cells awC 48) = W at h1 ⊢
  generalize w.heap.size = g at h1 ⊢
  clear h ht
  obtain rfl | rfl | rfl : t = 0 ∨ t = 1 ∨ t = 2 := by omega
  ·refine ⟨?_, ?_, ?_, ?_⟩ <;> simp [Addr.add, World.cell?, h1, awC, aw1]
  ·refine ⟨?_, ?_, ?_, ?_⟩ <;> simp [Addr.add, World.cell?, h1, awC, aw2]
  ·refine ⟨?_, ?_, ?_, ?_⟩ <;> simp [Addr.add, World.cell?, h1, awC, aw3]
 ·intro e he
  rcases List.mem_cons.1 he with rfl | he
  ·exact (show (1 : Nat) ≤ maxLen by decide)
  ·rcases List.mem_cons.1 he with rfl | he
   ·exact (show (1 : Nat) ≤ maxLen by decide)
   ·obtain rfl := List.mem_singleton.1 he
    exact (show (1 : Nat) ≤ maxLen by decide)
attribute [local go_sem ↓] ldP_eq stP_eq ldFa_eq stFa_eq bldF_eq bsE3_eq bsR1_eq bldE_eq bldP_eq bldR_eq bldD_eq K.ld28_eq K.st28_eq
attribute [local go_sem] cells_PV PC_size cells_FaV FaC_size zero_FaZ run_bldF01 run_bldF2 run_bsE3 run_bsR1 run_bldE run_bldD run_bldP1 run_bldR2 K.cells_EV K.EC_size K.zero_EC
set_option maxRecDepth 100000 in
theorem entryL_any (r n q : Int) (s : ByteArray) (w : World) : Calls Tryz.prog 23 #[.int .i64 r, .int .i64 n, .string s, .int .i64 q] w fun e w' => e = .returned (K.EV ⟨r, n, s, q⟩) ∧ Below w.heap.size w w' := by
 obtain ⟨g, hg⟩ : ∃ g, w.heap.size = g := ⟨_, rfl⟩
 obtain ⟨w1, hst, X1, B1, -⟩ := K.made w ⟨r, n, s, q⟩ g hg
 replace hst : (K.st28 (.pointer (some ⟨g, 0, none⟩)) (.agg #[.int .i64 r, .int .i64 n, .string s, .int .i64 q])).run Tryz.prog (w.alloc (.cells (K.EC K.en0) 48)) = .ok () w1 := hst
 have HX := hide X1
 have HB := hide B1
 clear X1 B1
 go_enter Tryz.func23, Tryz.ntmps23
 go_wp2_with fail
 clear hst
 refine bodyPost_ret (resE1 rfl rfl HX.out) rfl ?_
 exact ⟨rfl, HB.out⟩
def SomeD (f : Fc) : Prop := f.es = [aw1, aw2, aw3] ∧ f.an = 3 ∧ f.p.P = awP ∧ f.rs = [] ∧ f.rn = 0
set_option maxRecDepth 100000 in
theorem someL_any (w : World) : Calls Tryz.prog 8 #[] w fun e w' => FcS w w' e SomeD := by
 have b0 := below_new w (.cells (FaC (mkF fz0)) 29)
 have X0 := FaBox_new w (mkF fz0)
 obtain ⟨w0, hw0⟩ : ∃ w0, w.alloc (.cells (FaC (mkF fz0)) 29) = w0 := ⟨_, rfl⟩
 obtain ⟨G, hG⟩ : ∃ G, w.heap.size = G := ⟨_, rfl⟩
 rw [hw0] at b0 X0
 rw [hG] at X0
 have HX := hide X0
 have HB := hide b0
 have HGs : Hid (w.heap.size = G) := hG
 clear b0 X0
 go_enter Tryz.func8, Tryz.ntmps8
 go_wp2_with fail
 clear hw0 hG
 refine (entryL_any 0 1 5 ⟨#[65]⟩ _).mono ?_
 rintro e w1 ⟨rfl, b1⟩
 have HB1 := hide (HB.out.trans (b1.mono HB.out.size))
 have HX1 := hide (HX.out.below b1)
 clear b1
 go_wp2_with fail
 refine (entryL_any 0 2 2 ⟨#[66]⟩ _).mono ?_
 rintro e w2 ⟨rfl, b2⟩
 have HB2 := hide (HB1.out.trans (b2.mono HB1.out.size))
 have HX2 := hide (HX1.out.below b2)
 clear b2
 go_wp2_with fail
 refine (entryL_any 1 1 1 ⟨#[65]⟩ _).mono ?_
 rintro e w3 ⟨rfl, b3⟩
 have HB3 := hide (HB2.out.trans (b3.mono HB2.out.size))
 have HX3 := hide (HX2.out.below b3)
 clear b3
 have lb : (bsE3 #[(0, K.EV ⟨0, 1, ⟨#[65]⟩, 5⟩), (1, K.EV ⟨0, 2, ⟨#[66]⟩, 2⟩), (2, K.EV ⟨1, 1, ⟨#[65]⟩, 1⟩)]).run Tryz.prog w3 = .ok (.slice (some ⟨w3.heap.size, 0, none⟩) 3 3) (w3.alloc (.cells awC 48)) := run_bsE3 w3
 obtain ⟨g4, hg4⟩ : ∃ g, w3.heap.size = g := ⟨_, rfl⟩
 have S4 := awC_src w3 g4 hg4
 have b4 := below_new w3 (.cells awC 48)
 have z4 : (w3.alloc (.cells awC 48)).heap.size = g4 + 1 := by simp [hg4]
 obtain ⟨w4, hw4⟩ : ∃ w4, w3.alloc (.cells awC 48) = w4 := ⟨_, rfl⟩
 rw [hw4] at lb S4 b4 z4
 rw [hg4] at lb
 have V5 := vsrc_lit w4 3 #[.int .i64 1] [1] rfl (g4 + 1) 1 z4 rfl
 have b5 := below_new w4 (.cells #[.int .i64 1] 3)
 obtain ⟨w5, hw5⟩ : ∃ w5, w4.alloc (.cells #[.int .i64 1] 3) = w5 := ⟨_, rfl⟩
 rw [hw5] at V5 b5
 have HX5 := hide ((HX3.out.below b4).below b5)
 have HB5 := hide (HB3.out.trans ((b4.trans (b5.mono b4.size)).mono HB3.out.size))
 have hgg : G + 1 ≤ g4 := by have := HX3.out.lt; omega
 have HF5 : Hid (FcOk w5 ⟨some ⟨g4, 0, none⟩, 3, 3, [aw1, aw2, aw3], ⟨some ⟨g4 + 1, 0, none⟩, 1, 1, none, 0, 0, awP⟩, none, 0, 0, []⟩) := ⟨S4.below b5, ⟨V5, SSrc.empty _, (show (1 : Nat) ≤ 17592186044415 by decide)⟩, RcS.empty _⟩
 have HN5 : Hid (FcN (G + 1) ⟨some ⟨g4, 0, none⟩, 3, 3, [aw1, aw2, aw3], ⟨some ⟨g4 + 1, 0, none⟩, 1, 1, none, 0, 0, awP⟩, none, 0, 0, []⟩) := ⟨fun ad e => by cases e; exact hgg, ⟨fun ad e => by cases e; exact Nat.le_succ_of_le hgg, fun ad e => (by cases e)⟩, fun ad e => (by cases e), fun c hc => (by cases hc)⟩
 have HE := hide (give_fs (w := w) SomeD HX5.out HF5.out ⟨Nat.le_refl _, fun _ => rfl⟩ HN5.out HB5.out (by rw [HGs.out]; exact Nat.le_refl _) ⟨rfl, rfl, rfl, rfl, rfl⟩)
 have stz := run_stFa (m' := mkF ⟨some ⟨g4, 0, none⟩, 3, 3, [aw1, aw2, aw3], ⟨some ⟨g4 + 1, 0, none⟩, 1, 1, none, 0, 0, awP⟩, none, 0, 0, []⟩) HX5.out
 replace stz : (stFa (.pointer (some ⟨G, 0, none⟩)) (.agg #[.slice (some ⟨g4, 0, none⟩) 3 3, .slice (some ⟨g4 + 1, 0, none⟩) 1 1, .slice none 0 0, .slice none 0 0])).run Tryz.prog w5 = .ok () (w5.setRow G (FaC (mkF ⟨some ⟨g4, 0, none⟩, 3, 3, [aw1, aw2, aw3], ⟨some ⟨g4 + 1, 0, none⟩, 1, 1, none, 0, 0, awP⟩, none, 0, 0, []⟩))) := stz
 clear S4 b4 V5 b5 hgg
 go_wp2_with fail
 refine bodyPost_ret (res1Fa rfl rfl HE.out.1) rfl ?_
 exact HE.out.2
def BarD (f : Fc) : Prop := f.es = [] ∧ f.an = 0 ∧ f.p.P = pv0.P ∧ (∃ r, f.rs = [r] ∧ r.s = ⟨#[65]⟩ ∧ r.p.P = awQ) ∧ f.rn = 1
/-! ### what the join is -/
theorem awP_form : InForm awP := ⟨by decide, trivial⟩
theorem some_form {f : Fc} (h : SomeD f) : FormF f := ⟨by rw [h.1, h.2.1]; decide, by rw [h.2.2.1]; exact awP_form, by rw [h.2.2.2.1, h.2.2.2.2]; exact okR_zero _⟩
structure AwJ (h : Fc) : Prop where
 es : h.es = [aw1, aw2, aw3]
 p : h.p.P = awP
 rs : ∃ r, h.rs = [r] ∧ r.s = ⟨#[65]⟩ ∧ r.p.P = awQ
 form : FormF h
end Go.Proofs.YtehcehhfdhiomaaGreat
namespace Go.Proofs.YtehcehhfdhiomaaGreat
open Go.ChangeShapes Go.WideShapes Go.ChangeAt Go.RowKit Go.Joins

theorem own : ownKnob Tryz.prog.godebug = none := by kernel_rfl
theorem laidOut : laidOutB Tryz.prog = true := by kernel_rfl
theorem cellsS : Tryz.prog.cellsOf 65 = 3 := by kernel_rfl
theorem cellsI : Tryz.prog.cellsOf 3 = 1 := by kernel_rfl
theorem cellsP : Tryz.prog.cellsOf 26 = 2 := by kernel_rfl
theorem cellsV : Tryz.prog.cellsOf 23 = 1 := by kernel_rfl
theorem cellsC : Tryz.prog.cellsOf 24 = 1 := by kernel_rfl
theorem bulk_pos {H : Type} (d : DataW H) : 1 ≤ Rows.uptoBulk d := by
 cases d with
 | lit l => cases l <;> simp only [Rows.uptoBulk] <;> omega
 | _ => simp only [Rows.uptoBulk] <;> omega
theorem bulk_len {H : Type} : ∀ (l : List (DataW H)), l.length ≤ Rows.uptoBulkAll l
 | [] => by simp
 | d :: l => by have := bulk_len l; have := bulk_pos d; simp only [Rows.uptoBulkAll, List.length_cons]; omega
theorem list2 {α : Type} {l : List α} (h : l.length = 2) : ∃ a b, l = [a, b] := by
 match l, h with
 | [a, b], _ => exact ⟨a, b, rfl⟩
theorem list3 {α : Type} {l : List α} (h : l.length = 3) : ∃ a b c, l = [a, b, c] := by
 match l, h with
 | [a, b, c], _ => exact ⟨a, b, c, rfl⟩
theorem open_span {H : Type} {enc : TypeId × Value → H} {w : World} {base : Nat} {spare : Nat → Bool} {held : Bool} {fuel : Nat} {cs : List Value} {x : DataW H × List MemPlace}
  (h : DataW.trod enc Tryz.prog w base spare held fuel 65 cs = some x) : ∃ e : Sn, cs = (SC e).toList := by
 obtain ⟨xs, m, _, hx, hcl, hxl, hf⟩ := DataW.trod_struct Tryz.underlying65 h
 obtain ⟨v0, v1, v2, rfl⟩ := list3 (hcl.trans cellsS)
 obtain ⟨y0, y1, y2, rfl⟩ := list3 hxl
 have t0 := hf 0 _ rfl
 have t1 := hf 1 _ rfl
 have t2 := hf 2 _ rfl
 simp [cellsI] at t0 t1 t2
 obtain ⟨r, e0, -, _⟩ := DataW.trod_int Tryz.underlying3 t0
 obtain ⟨n, e1, -, _⟩ := DataW.trod_int Tryz.underlying3 t1
 obtain ⟨m', e2, -, _⟩ := DataW.trod_int Tryz.underlying3 t2
 simp only [List.cons.injEq, and_true] at e0 e1 e2
 subst e0 e1 e2
 exact ⟨⟨r, n, m'⟩, rfl⟩
theorem viewI {H : Type} {enc : TypeId × Value → H} {W : World} {fuel : Nat} {v : Value} {x : DataW H × List MemPlace}
  (h : DataW.trod enc Tryz.prog W 0 (fun _ => true) true fuel 23 [v] = some x) (hw : Rows.uptoBulk x.1 ≤ 1048576) : ∃ (ao : Option Addr) (n cap : Nat) (Z : List Int), v = .slice ao n cap ∧ V.Src W ao n cap Z ∧ n ≤ 1048576 := by
 rcases DataW.trod_slice Tryz.underlying23 h with h0 | ⟨a, len, cap, elems, rest, n, _, hcs, hx, hb, hl, hm, hlen, hel, hsp, hns⟩
 ·have e : v = .slice none 0 0 := by simpa using h0.1
  exact ⟨none, 0, 0, [], e, ⟨rfl, fun _ => ⟨rfl, rfl⟩, fun ad h => (by cases h)⟩, Nat.zero_le _⟩
 ·subst hx
  have e : v = .slice (some a) len cap := by simpa using hcs
  simp only [Rows.uptoBulk] at hw
  have h1 := bulk_len (elems.map (·.1))
  simp only [List.length_map] at h1
  have key : ∀ i, i < len → ∃ z : Int, W.cell? (a.add i) = some (.int .i64 z) := by
   intro i hi
   have he := hel i hi
   obtain ⟨y, hy⟩ : ∃ y, elems[i]? = some y := ⟨_, List.getElem?_eq_getElem (by omega)⟩
   rw [hy, cellsI, Option.bind_eq_some_iff] at he
   obtain ⟨cs', hcs, hy'⟩ := he
   obtain ⟨hl', -, hce⟩ := World.cells?_some hcs
   obtain ⟨z, rfl, -, _⟩ := DataW.trod_int Tryz.underlying3 hy'
   have g0 := hce 0 (by omega)
   rw [add_zero, Nat.mul_one] at g0
   exact ⟨z, g0⟩
  refine ⟨some a, len, cap, (List.range len).map fun i => if h : i < len then Classical.choose (key i h) else 0, e, ⟨by simp, fun h => (by cases h), fun ad h t ht => ?_⟩, by omega⟩
  obtain rfl := Option.some.inj h
  have : ((List.range len).map fun i => if h : i < len then Classical.choose (key i h) else 0).getD t 0 = Classical.choose (key t ht) := by simp [List.getD, ht]
  rw [this]
  exact Classical.choose_spec (key t ht)
theorem viewC {H : Type} {enc : TypeId × Value → H} {W : World} {fuel : Nat} {v : Value} {x : DataW H × List MemPlace}
  (h : DataW.trod enc Tryz.prog W 0 (fun _ => true) true fuel 24 [v] = some x) (hw : Rows.uptoBulk x.1 ≤ 1048576) : ∃ (ao : Option Addr) (n cap : Nat) (L : List Sn), v = .slice ao n cap ∧ SSrc W ao n cap L ∧ n ≤ 1048576 := by
 rcases DataW.trod_slice Tryz.underlying24 h with h0 | ⟨a, len, cap, elems, rest, n, _, hcs, hx, hb, hl, hm, hlen, hel, hsp, hns⟩
 ·have e : v = .slice none 0 0 := by simpa using h0.1
  exact ⟨none, 0, 0, [], e, SSrc.empty _, Nat.zero_le _⟩
 ·subst hx
  have e : v = .slice (some a) len cap := by simpa using hcs
  simp only [Rows.uptoBulk] at hw
  have h1 := bulk_len (elems.map (·.1))
  simp only [List.length_map] at h1
  have key : ∀ i, i < len → ∃ e : Sn, SnAt W (a.add (i * 3)) e := by
   intro i hi
   have he := hel i hi
   obtain ⟨y, hy⟩ : ∃ y, elems[i]? = some y := ⟨_, List.getElem?_eq_getElem (by omega)⟩
   rw [hy, cellsS, Option.bind_eq_some_iff] at he
   obtain ⟨cs', hcs, hy'⟩ := he
   obtain ⟨_, -, hce⟩ := World.cells?_some hcs
   obtain ⟨e, rfl⟩ := open_span hy'
   have g0 := hce 0 (by omega)
   rw [add_zero] at g0
   exact ⟨e, ⟨g0, hce 1 (by omega), hce 2 (by omega)⟩⟩
  refine ⟨some a, len, cap, (List.range len).map fun i => if h : i < len then Classical.choose (key i h) else sn0, e, ⟨by simp, fun h => (by cases h), fun ad h t ht => ?_, by omega, hl⟩, by omega⟩
  obtain rfl := Option.some.inj h
  have : ((List.range len).map fun i => if h : i < len then Classical.choose (key i h) else sn0).getD t sn0 = Classical.choose (key t ht) := by simp [List.getD, ht]
  rw [this]
  exact Classical.choose_spec (key t ht)
theorem viewP {H : Type} {enc : TypeId × Value → H} {W : World} {fuel : Nat} {cs : List Value} {x : DataW H × List MemPlace}
  (h : DataW.trod enc Tryz.prog W 0 (fun _ => true) true fuel 26 cs = some x) (hw : Rows.uptoBulk x.1 ≤ 1048576) : ∃ p : Pv, cs = [.slice p.vo p.vn p.vc, .slice p.co p.cn p.cc] ∧ PSrc W p ∧ p.P.cloud.length ≤ 1048576 := by
 obtain ⟨xs, m, _, hx, hcl, hxl, hf⟩ := DataW.trod_struct Tryz.underlying26 h
 obtain ⟨v0, v1, rfl⟩ := list2 (hcl.trans cellsP)
 obtain ⟨y0, y1, rfl⟩ := list2 hxl
 have t0 := hf 0 _ rfl
 have t1 := hf 1 _ rfl
 simp [cellsV, cellsC] at t0 t1
 subst hx
 simp only [Rows.uptoBulk, List.map_cons, List.map_nil, Rows.uptoBulkAll] at hw
 obtain ⟨a0, l0, c0, Z, rfl, S0, g0⟩ := viewI t0 (by omega)
 obtain ⟨a1, l1, c1, L, rfl, S1, g1⟩ := viewC t1 (by omega)
 exact ⟨⟨a0, l0, c0, a1, l1, c1, ⟨Z, L⟩⟩, rfl, ⟨S0, S1, by show l0 ≤ _; omega⟩, by show L.length ≤ _; rw [S1.len]; exact g1⟩
end Go.Proofs.YtehcehhfdhiomaaGreat
namespace Go.Proofs.YtehcehhfdhiomaaGreat.K
open Go.ChangeShapes Go.WideShapes Go.ChangeAt Go.RowKit Go.Joins

theorem cells28 : Tryz.prog.cellsOf 48 = 4 := by kernel_rfl
theorem cells26 : Tryz.prog.cellsOf 46 = 2 := by kernel_rfl
theorem cells3 : Tryz.prog.cellsOf 3 = 1 := by kernel_rfl
theorem cells9 : Tryz.prog.cellsOf 9 = 1 := by kernel_rfl
theorem list2 {α : Type} {l : List α} (h : l.length = 2) : ∃ a b, l = [a, b] := by
 match l, h with
 | [a, b], _ => exact ⟨a, b, rfl⟩
theorem list3 {α : Type} {l : List α} (h : l.length = 3) : ∃ a b c, l = [a, b, c] := by
 match l, h with
 | [a, b, c], _ => exact ⟨a, b, c, rfl⟩
theorem list4 {α : Type} {l : List α} (h : l.length = 4) : ∃ a b c d, l = [a, b, c, d] := by
 match l, h with
 | [a, b, c, d], _ => exact ⟨a, b, c, d, rfl⟩
theorem open_entry {H : Type} {enc : TypeId × Value → H} {w : World} {base : Nat} {spare : Nat → Bool} {held : Bool} {fuel : Nat} {cs : List Value} {x : DataW H × List MemPlace}
  (h : DataW.trod enc Tryz.prog w base spare held fuel 48 cs = some x) : ∃ e : En, cs = (EC e).toList ∧ e.sku.size ≤ maxLen := by
 obtain ⟨xs, m, _, hx, hcl, hxl, hf⟩ := DataW.trod_struct Tryz.underlying48 h
 obtain ⟨v0, v1, v2, v3, rfl⟩ := list4 (hcl.trans cells28)
 obtain ⟨y0, y1, y2, rfl⟩ := list3 hxl
 have t0 := hf 0 _ rfl
 have t1 := hf 1 _ rfl
 have t2 := hf 2 _ rfl
 simp [cells3, cells9, cells26] at t0 t1 t2
 obtain ⟨xs', m', _, hx', hcl', hxl', hf'⟩ := DataW.trod_struct Tryz.underlying46 t0
 obtain ⟨z0, z1, rfl⟩ := list2 hxl'
 have s0 := hf' 0 _ rfl
 have s1 := hf' 1 _ rfl
 simp [cells3] at s0 s1
 obtain ⟨r, e0, -, _⟩ := DataW.trod_int Tryz.underlying3 s0
 obtain ⟨n, e1, -, _⟩ := DataW.trod_int Tryz.underlying3 s1
 obtain ⟨s, e2, -, w2⟩ := DataW.trod_string Tryz.underlying9 t1
 obtain ⟨q, e3, -, _⟩ := DataW.trod_int Tryz.underlying3 t2
 simp only [List.cons.injEq, and_true] at e0 e1 e2 e3
 subst e0 e1 e2 e3
 exact ⟨⟨r, n, s, q⟩, rfl, w2⟩
end Go.Proofs.YtehcehhfdhiomaaGreat.K
namespace Go.Proofs.YtehcehhfdhiomaaGreat
open Go.ChangeShapes Go.WideShapes Go.ChangeAt Go.RowKit Go.Joins

def RSmT (L : List Rc) : Prop := L.length ≤ 209715 ∧ ∀ r ∈ L, r.p.P.cloud.length ≤ 1048576
structure FcU (w : World) (f : Fc) : Prop where
 ok : FcOk w f
 row : FcR f
 sm : RSmT f.rs
 an : f.an ≤ 1048576
theorem FcU.rn {w : World} {f : Fc} (h : FcU w f) : f.rn ≤ 209715 := by rw [← h.ok.rs.len]; exact h.sm.1
theorem cellsRe : Tryz.prog.cellsOf 76 = 3 := by kernel_rfl
theorem cellsSk : Tryz.prog.cellsOf 9 = 1 := by kernel_rfl
theorem cellsEs : Tryz.prog.cellsOf 22 = 1 := by kernel_rfl
theorem cellsRs : Tryz.prog.cellsOf 27 = 1 := by kernel_rfl
theorem cellsFa : Tryz.prog.cellsOf 29 = 4 := by kernel_rfl
theorem bulk_at {H : Type} : ∀ (l : List (DataW H)) (d : DataW H), d ∈ l → Rows.uptoBulk d ≤ Rows.uptoBulkAll l
 | e :: l, d, h => by
  simp only [Rows.uptoBulkAll]
  rcases List.mem_cons.1 h with rfl | h
  ·omega
  ·have := bulk_at l d h; omega
theorem bulk_five {H : Type} : ∀ (l : List (DataW H)), (∀ d ∈ l, 5 ≤ Rows.uptoBulk d) → 5 * l.length ≤ Rows.uptoBulkAll l
 | [], _ => by simp
 | d :: l, h => by
  have h1 := bulk_five l (fun e he => h e (List.mem_cons_of_mem _ he))
  have h2 := h d List.mem_cons_self
  simp only [Rows.uptoBulkAll, List.length_cons]; omega
theorem viewEu {H : Type} {enc : TypeId × Value → H} {W : World} {fuel : Nat} {v : Value} {x : DataW H × List MemPlace}
  (h : DataW.trod enc Tryz.prog W 0 (fun _ => true) true fuel 22 [v] = some x) (hw : Rows.uptoBulk x.1 ≤ 1048576) : ∃ (ao : Option Addr) (n cap : Nat) (L : List K.En), v = .slice ao n cap ∧ K.ESrc W ao n cap L ∧ n ≤ 1048576 := by
 rcases DataW.trod_slice Tryz.underlying22 h with h0 | ⟨a, len, cap, elems, rest, n, _, hcs, hx, hb, hl, hm, hlen, hel, hsp, hns⟩
 ·have e : v = .slice none 0 0 := by simpa using h0.1
  exact ⟨none, 0, 0, [], e, ⟨rfl, fun _ => ⟨rfl, rfl⟩, fun ad h => (by cases h), fun e he => (by cases he), Nat.zero_le _⟩, Nat.zero_le _⟩
 ·subst hx
  have e : v = .slice (some a) len cap := by simpa using hcs
  simp only [Rows.uptoBulk] at hw
  have h1 := bulk_len (elems.map (·.1))
  simp only [List.length_map] at h1
  have key : ∀ i, i < len → ∃ e : K.En, K.EnAt W (a.add (i * 4)) e ∧ e.sku.size ≤ maxLen := by
   intro i hi
   have he := hel i hi
   obtain ⟨y, hy⟩ : ∃ y, elems[i]? = some y := ⟨_, List.getElem?_eq_getElem (by omega)⟩
   rw [hy, K.cells28, Option.bind_eq_some_iff] at he
   obtain ⟨cs', hcs, hy'⟩ := he
   obtain ⟨_, -, hce⟩ := World.cells?_some hcs
   obtain ⟨e, rfl, hs⟩ := K.open_entry hy'
   have g0 := hce 0 (by omega)
   rw [add_zero] at g0
   exact ⟨e, ⟨g0, hce 1 (by omega), hce 2 (by omega), hce 3 (by omega)⟩, hs⟩
  refine ⟨some a, len, cap, (List.range len).map fun i => if h : i < len then Classical.choose (key i h) else K.en0, e, ⟨by simp, fun h => (by cases h), fun ad h t ht => ?_, fun e he => ?_, by omega⟩, by omega⟩
  ·obtain rfl := Option.some.inj h
   have : ((List.range len).map fun i => if h : i < len then Classical.choose (key i h) else K.en0).getD t K.en0 = Classical.choose (key t ht) := by simp [List.getD, ht]
   rw [this]
   exact (Classical.choose_spec (key t ht)).1
  ·simp only [List.mem_map, List.mem_range] at he
   obtain ⟨i, hi, rfl⟩ := he
   rw [dif_pos hi]
   exact (Classical.choose_spec (key i hi)).2
theorem past_bulk {H : Type} {enc : TypeId × Value → H} {W : World} {fuel : Nat} {cs : List Value} {x : DataW H × List MemPlace}
  (h : DataW.trod enc Tryz.prog W 0 (fun _ => true) true fuel 26 cs = some x) : 3 ≤ Rows.uptoBulk x.1 := by
 obtain ⟨xs, m, _, hx, hcl, hxl, hf⟩ := DataW.trod_struct Tryz.underlying26 h
 obtain ⟨y0, y1, rfl⟩ := list2 hxl
 subst hx
 have h0 := bulk_pos y0.1
 have h1 := bulk_pos y1.1
 simp only [Rows.uptoBulk, List.map_cons, List.map_nil, Rows.uptoBulkAll]
 omega
theorem open_recordU {H : Type} {enc : TypeId × Value → H} {W : World} {fuel : Nat} {cs : List Value} {x : DataW H × List MemPlace}
  (h : DataW.trod enc Tryz.prog W 0 (fun _ => true) true fuel 76 cs = some x) : 5 ≤ Rows.uptoBulk x.1 ∧ (Rows.uptoBulk x.1 ≤ 1048576 → ∃ r : Rc, cs = (ReC (mkR r)).toList ∧ RcOk W r ∧ r.p.P.cloud.length ≤ 1048576) := by
 obtain ⟨xs, m, _, hx, hcl, hxl, hf⟩ := DataW.trod_struct Tryz.underlying76 h
 obtain ⟨v0, v1, v2, rfl⟩ := list3 (hcl.trans cellsRe)
 obtain ⟨y0, y1, rfl⟩ := list2 hxl
 have t0 := hf 0 _ rfl
 have t1 := hf 1 _ rfl
 simp [cellsP, cellsSk] at t0 t1
 subst hx
 simp only [Rows.uptoBulk, List.map_cons, List.map_nil, Rows.uptoBulkAll]
 have b0 := bulk_pos y0.1
 have b1 := past_bulk t1
 refine ⟨by omega, fun hw => ?_⟩
 obtain ⟨s, e0, -, hs⟩ := DataW.trod_string Tryz.underlying9 t0
 obtain ⟨p, ep, Sp, hl⟩ := viewP t1 (by omega)
 simp only [List.cons.injEq, and_true] at e0 ep
 obtain ⟨rfl, rfl⟩ := ep
 subst e0
 exact ⟨⟨s, p⟩, rfl, ⟨Sp, hs⟩, hl⟩
theorem viewRT {H : Type} {enc : TypeId × Value → H} {W : World} {fuel : Nat} {v : Value} {x : DataW H × List MemPlace}
  (h : DataW.trod enc Tryz.prog W 0 (fun _ => true) true fuel 27 [v] = some x) (hw : Rows.uptoBulk x.1 ≤ 1048576) : ∃ (ao : Option Addr) (n cap : Nat) (L : List Rc), v = .slice ao n cap ∧ RcT W ao n cap L ∧ RSmT L := by
 rcases DataW.trod_slice Tryz.underlying27 h with h0 | ⟨a, len, cap, elems, rest, n, _, hcs, hx, hb, hl, hm, hlen, hel, hsp, hns⟩
 ·have e : v = .slice none 0 0 := by simpa using h0.1
  exact ⟨none, 0, 0, [], e, ⟨RcS.empty _, Nat.le_refl _, fun _ => rfl⟩, Nat.zero_le _, fun r hr => by cases hr⟩
 ·subst hx
  have e : v = .slice (some a) len cap := by simpa using hcs
  simp only [Rows.uptoBulk] at hw
  have op : ∀ i (hi : i < elems.length), i < len ∧ ∃ cs', (5 ≤ Rows.uptoBulk elems[i].1 ∧ (Rows.uptoBulk elems[i].1 ≤ 1048576 → ∃ r : Rc, cs' = (ReC (mkR r)).toList ∧ RcOk W r ∧ r.p.P.cloud.length ≤ 1048576)) ∧ (∀ j, j < 3 → W.cell? ((a.add (i * 3)).add j) = cs'[j]?) := by
   intro i hi
   have hi' : i < len := by omega
   have he := hel i hi'
   rw [List.getElem?_eq_getElem hi, cellsRe, Option.bind_eq_some_iff] at he
   obtain ⟨cs', hcs, hy'⟩ := he
   obtain ⟨_, -, hce⟩ := World.cells?_some hcs
   exact ⟨hi', cs', open_recordU hy', fun j hj => hce j hj⟩
  have h5 := bulk_five (elems.map (·.1)) (fun d hd => by
   obtain ⟨y, hy, rfl⟩ := List.mem_map.1 hd
   obtain ⟨i, hi, rfl⟩ := List.getElem_of_mem hy
   obtain ⟨-, _, h, -⟩ := op i hi
   exact h.1)
  simp only [List.length_map] at h5
  have key : ∀ i, i < len → ∃ r : Rc, ReAt W (a.add (i * 3)) (mkR r) ∧ RcOk W r ∧ r.p.P.cloud.length ≤ 1048576 := by
   intro i hi
   have hi' : i < elems.length := by omega
   obtain ⟨-, cs', h, hce⟩ := op i hi'
   obtain ⟨r, rfl, hr, hl2⟩ := h.2 (by have := bulk_at (elems.map (·.1)) elems[i].1 (List.mem_map_of_mem (f := (·.1)) (List.getElem_mem hi')); omega)
   have g0 := hce 0 (by omega)
   rw [add_zero] at g0
   exact ⟨r, ⟨g0, hce 1 (by omega), hce 2 (by omega)⟩, hr, hl2⟩
  refine ⟨some a, len, cap, (List.range len).map fun i => if h : i < len then Classical.choose (key i h) else rc0, e, ⟨⟨by simp, (fun h => by cases h), fun ad h t ht => ?_, fun r hr => ?_, by omega⟩, hl, fun h => by cases h⟩, by simp; omega, fun r hr => ?_⟩
  ·obtain rfl := Option.some.inj h
   have : ((List.range len).map fun i => if h : i < len then Classical.choose (key i h) else rc0).getD t rc0 = Classical.choose (key t ht) := by simp [List.getD, ht]
   rw [this]
   exact (Classical.choose_spec (key t ht)).1
  ·simp only [List.mem_map, List.mem_range] at hr
   obtain ⟨i, hi, rfl⟩ := hr
   rw [dif_pos hi]
   exact (Classical.choose_spec (key i hi)).2.1
  ·simp only [List.mem_map, List.mem_range] at hr
   obtain ⟨i, hi, rfl⟩ := hr
   rw [dif_pos hi]
   exact (Classical.choose_spec (key i hi)).2.2
theorem open_factsU {H : Type} {enc : TypeId × Value → H} {W : World} {fuel : Nat} {cs : List Value} {x : DataW H × List MemPlace}
  (h : DataW.trod enc Tryz.prog W 0 (fun _ => true) true fuel 29 cs = some x) (hw : Rows.uptoBulk x.1 ≤ 1048576) : ∃ f : Fc, cs = (FaC (mkF f)).toList ∧ FcU W f := by
 obtain ⟨xs, m, _, hx, hcl, hxl, hf⟩ := DataW.trod_struct Tryz.underlying29 h
 obtain ⟨v0, v1, v2, v3, rfl⟩ := K.list4 (hcl.trans cellsFa)
 obtain ⟨y0, y1, y2, rfl⟩ := list3 hxl
 have t0 := hf 0 _ rfl
 have t1 := hf 1 _ rfl
 have t2 := hf 2 _ rfl
 simp [cellsP, cellsEs, cellsRs] at t0 t1 t2
 subst hx
 simp only [Rows.uptoBulk, List.map_cons, List.map_nil, Rows.uptoBulkAll] at hw
 obtain ⟨ro, rn, rc, R, rfl, Sr, r1⟩ := viewRT t2 (by omega)
 obtain ⟨ao, an, ac, A, rfl, Sa, a1⟩ := viewEu t0 (by omega)
 obtain ⟨p, ep, Sp, -⟩ := viewP t1 (by omega)
 simp only [List.cons.injEq, and_true] at ep
 obtain ⟨rfl, rfl⟩ := ep
 exact ⟨⟨ao, an, ac, A, p, ro, rn, rc, R⟩, rfl, ⟨Sa, Sp, Sr.src⟩, ⟨Sr.room, Sr.nil⟩, r1, a1⟩
end Go.Proofs.YtehcehhfdhiomaaGreat
