/- TAw PVw LView TVf -/
import Derived.Test.YtehcehhfdhiomaaGreatTk
import Derived.Test.YtehcehhfdhiomaaGreatTf39
import Derived.Test.YtehcehhfdhiomaaGreatTf26
import Derived.Test.YtehcehhfdhiomaaGreatTf38
import Derived.Test.YtehcehhfdhiomaaGreatTf00
import Derived.ProofKit
import Derived.OpenShut
import Derived.Lib.SmallJoins
import Derived.HandedShaped
import Derived.SizedLaws
import Derived.ChangeMaps5
import Derived.JoinedCond
import Derived.Test.YtehcehhfdhiomaaGreatTf17
import Derived.Test.YtehcehhfdhiomaaGreatTf33
namespace Go.Proofs.YtehcehhfdhiomaaGreat
open Go.RowKit
def FcS (w w' : World) (e : Ending) (D : Fc → Prop) : Prop := ∃ f, e = .returned (FaV (mkF f)) ∧ FcOk w' f ∧ FcR f ∧ FcN w.heap.size f ∧ Below w.heap.size w w' ∧ D f
theorem give_fs {w W : World} {g : Nat} {m0 : FacV} {f : Fc} (D : Fc → Prop) (hX : FaBox W g m0) (hF : FcOk W f) (hr : FcR f) (hn : FcN (g + 1) f) (hb : Below w.heap.size w W) (hg : w.heap.size ≤ g) (hD : D f) :
  FaBox (W.setRow g (FaC (mkF f))) g (mkF f) ∧ FcS w (W.setRow g (FaC (mkF f))) (.returned (FaV (mkF f))) D :=
 ⟨hX.setRow, f, rfl, hF.off2 hn (fun k hk => setRow_other _ _ _ _ (by omega)), hr, hn.mono (by omega), below_setRow hb hg, hD⟩
def aw1 : K.En := ⟨0, 1, ⟨#[65]⟩, 5⟩
def aw2 : K.En := ⟨0, 2, ⟨#[66]⟩, 2⟩
def aw3 : K.En := ⟨1, 1, ⟨#[65]⟩, 1⟩
def awP : Pst := ⟨[1], []⟩
def awQ : Pst := ⟨[0, 2], []⟩
theorem resE1 {fn : Func} {p : Tmp} {w : World} {g : Nat} {T : TypeId} {e : K.En} (h : fn.results = #[.cell p 48]) {tmps : Array Value} (hp : tmps.getD p undef = .pointer (some ⟨g, 0, none⟩)) (A : K.Box w g T e) :
  (results fn tmps).run Tryz.prog w = .ok (K.EV e) w := by
 have hl := K.run_lv28 A.at
 simp only [results, h]
 rw [Array.getD_eq_getD_getElem?] at hp
 simp [hp, asAddr, hl]
def bsE3 (a : Array (Nat × Value)) : Sem Value := Instr.buildSlice 22 3 a
theorem bsE3_eq (a : Array (Nat × Value)) : Instr.buildSlice 22 3 a = bsE3 a := rfl
def awC : Array Value := #[.int .i64 0, .int .i64 1, .string ⟨#[65]⟩, .int .i64 5, .int .i64 0, .int .i64 2, .string ⟨#[66]⟩, .int .i64 2, .int .i64 1, .int .i64 1, .string ⟨#[65]⟩, .int .i64 1]
theorem run_bsE3 (w : World) : (bsE3 #[(0, K.EV aw1), (1, K.EV aw2), (2, K.EV aw3)]).run Tryz.prog w = .ok (.slice (some ⟨w.heap.size, 0, none⟩) 3 3) (w.alloc (.cells awC 48)) := by kernel_rfl
theorem run_bldF01 (a v : Option Addr) (n c m d : Nat) (w : World) : (bldF #[(0, .slice a n c), (1, .agg #[.slice v m d, .slice none 0 0])]).run Tryz.prog w = .ok (.agg #[.slice a n c, .slice v m d, .slice none 0 0, .slice none 0 0]) w := by kernel_rfl
theorem run_bldF2 (a : Option Addr) (n c : Nat) (w : World) : (bldF #[(2, .slice a n c)]).run Tryz.prog w = .ok (.agg #[.slice none 0 0, .slice none 0 0, .slice none 0 0, .slice a n c]) w := by kernel_rfl
def bsR1 (a : Array (Nat × Value)) : Sem Value := Instr.buildSlice 27 1 a
theorem bsR1_eq (a : Array (Nat × Value)) : Instr.buildSlice 27 1 a = bsR1 a := rfl
theorem run_bsR1 (s : ByteArray) (a : Option Addr) (n c : Nat) (w : World) : (bsR1 #[(0, .agg #[.string s, .slice a n c, .slice none 0 0])]).run Tryz.prog w = .ok (.slice (some ⟨w.heap.size, 0, none⟩) 1 1) (w.alloc (.cells #[.string s, .slice a n c, .slice none 0 0] 76)) := by kernel_rfl
theorem awC_src (w : World) (g : Nat) (hg : w.heap.size = g) : K.ESrc (w.alloc (.cells awC 48)) (some ⟨g, 0, none⟩) 3 3 [aw1, aw2, aw3] := by
 subst hg
 refine ⟨rfl, (fun h => by cases h), fun ad h t ht => ?_, ?_, (show (3 : Nat) ≤ 3518437208883 by decide)⟩
 ·obtain rfl := Option.some.inj h
  have h1 := heap_alloc_new w (.cells awC 48)
  have ht2 : t < 3 := ht
  generalize w.alloc (.cells awC 48) = W at h1 ⊢
  generalize w.heap.size = g at h1 ⊢
  clear h ht
  obtain rfl | rfl | rfl : t = 0 ∨ t = 1 ∨ t = 2 := by omega
  ·refine ⟨?_, ?_, ?_, ?_⟩ <;> simp [Addr.add, World.cell?, h1, awC, aw1]
  ·refine ⟨?_, ?_, ?_, ?_⟩ <;> simp [Addr.add, World.cell?, h1, awC, aw2]
  ·refine ⟨?_, ?_, ?_, ?_⟩ <;> simp [Addr.add, World.cell?, h1, awC, aw3]
 ·intro e he
  rcases List.mem_cons.1 he with rfl | he
  ·exact (show (1 : Nat) ≤ maxLen by decide)
  ·rcases List.mem_cons.1 he with rfl | he
   ·exact (show (1 : Nat) ≤ maxLen by decide)
   ·obtain rfl := List.mem_singleton.1 he
    exact (show (1 : Nat) ≤ maxLen by decide)
attribute [local go_sem ↓] ldP_eq stP_eq ldFa_eq stFa_eq bldF_eq bsE3_eq bsR1_eq bldE_eq bldP_eq bldR_eq bldD_eq K.ld28_eq K.st28_eq
attribute [local go_sem] cells_PV PC_size cells_FaV FaC_size zero_FaZ run_bldF01 run_bldF2 run_bsE3 run_bsR1 run_bldE run_bldD run_bldP1 run_bldR2 K.cells_EV K.EC_size K.zero_EC
set_option maxRecDepth 100000 in
theorem entryL_any (r n q : Int) (s : ByteArray) (w : World) : Calls Tryz.prog 23 #[.int .i64 r, .int .i64 n, .string s, .int .i64 q] w fun e w' => e = .returned (K.EV ⟨r, n, s, q⟩) ∧ Below w.heap.size w w' := by
 obtain ⟨g, hg⟩ : ∃ g, w.heap.size = g := ⟨_, rfl⟩
 obtain ⟨w1, hst, X1, B1, -⟩ := K.made w ⟨r, n, s, q⟩ g hg
 replace hst : (K.st28 (.pointer (some ⟨g, 0, none⟩)) (.agg #[.int .i64 r, .int .i64 n, .string s, .int .i64 q])).run Tryz.prog (w.alloc (.cells (K.EC K.en0) 48)) = .ok () w1 := hst
 have HX := hide X1
 have HB := hide B1
 clear X1 B1
 go_enter Tryz.func23, Tryz.ntmps23
 go_wp2_with fail
 clear hst
 refine bodyPost_ret (resE1 rfl rfl HX.out) rfl ?_
 exact ⟨rfl, HB.out⟩
def SomeD (f : Fc) : Prop := f.es = [aw1, aw2, aw3] ∧ f.an = 3 ∧ f.p.P = awP ∧ f.rs = [] ∧ f.rn = 0
set_option maxRecDepth 100000 in
theorem someL_any (w : World) : Calls Tryz.prog 8 #[] w fun e w' => FcS w w' e SomeD := by
 have b0 := below_new w (.cells (FaC (mkF fz0)) 29)
 have X0 := FaBox_new w (mkF fz0)
 obtain ⟨w0, hw0⟩ : ∃ w0, w.alloc (.cells (FaC (mkF fz0)) 29) = w0 := ⟨_, rfl⟩
 obtain ⟨G, hG⟩ : ∃ G, w.heap.size = G := ⟨_, rfl⟩
 rw [hw0] at b0 X0
 rw [hG] at X0
 have HX := hide X0
 have HB := hide b0
 have HGs : Hid (w.heap.size = G) := hG
 clear b0 X0
 go_enter Tryz.func8, Tryz.ntmps8
 go_wp2_with fail
 clear hw0 hG
 refine (entryL_any 0 1 5 ⟨#[65]⟩ _).mono ?_
 rintro e w1 ⟨rfl, b1⟩
 have HB1 := hide (HB.out.trans (b1.mono HB.out.size))
 have HX1 := hide (HX.out.below b1)
 clear b1
 go_wp2_with fail
 refine (entryL_any 0 2 2 ⟨#[66]⟩ _).mono ?_
 rintro e w2 ⟨rfl, b2⟩
 have HB2 := hide (HB1.out.trans (b2.mono HB1.out.size))
 have HX2 := hide (HX1.out.below b2)
 clear b2
 go_wp2_with fail
 refine (entryL_any 1 1 1 ⟨#[65]⟩ _).mono ?_
 rintro e w3 ⟨rfl, b3⟩
 have HB3 := hide (HB2.out.trans (b3.mono HB2.out.size))
 have HX3 := hide (HX2.out.below b3)
 clear b3
 have lb : (bsE3 #[(0, K.EV ⟨0, 1, ⟨#[65]⟩, 5⟩), (1, K.EV ⟨0, 2, ⟨#[66]⟩, 2⟩), (2, K.EV ⟨1, 1, ⟨#[65]⟩, 1⟩)]).run Tryz.prog w3 = .ok (.slice (some ⟨w3.heap.size, 0, none⟩) 3 3) (w3.alloc (.cells awC 48)) := run_bsE3 w3
 obtain ⟨g4, hg4⟩ : ∃ g, w3.heap.size = g := ⟨_, rfl⟩
 have S4 := awC_src w3 g4 hg4
 have b4 := below_new w3 (.cells awC 48)
 have z4 : (w3.alloc (.cells awC 48)).heap.size = g4 + 1 := by simp [hg4]
 obtain ⟨w4, hw4⟩ : ∃ w4, w3.alloc (.cells awC 48) = w4 := ⟨_, rfl⟩
 rw [hw4] at lb S4 b4 z4
 rw [hg4] at lb
 have V5 := vsrc_lit w4 3 #[.int .i64 1] [1] rfl (g4 + 1) 1 z4 rfl
 have b5 := below_new w4 (.cells #[.int .i64 1] 3)
 obtain ⟨w5, hw5⟩ : ∃ w5, w4.alloc (.cells #[.int .i64 1] 3) = w5 := ⟨_, rfl⟩
 rw [hw5] at V5 b5
 have HX5 := hide ((HX3.out.below b4).below b5)
 have HB5 := hide (HB3.out.trans ((b4.trans (b5.mono b4.size)).mono HB3.out.size))
 have hgg : G + 1 ≤ g4 := by have := HX3.out.lt; omega
 have HF5 : Hid (FcOk w5 ⟨some ⟨g4, 0, none⟩, 3, 3, [aw1, aw2, aw3], ⟨some ⟨g4 + 1, 0, none⟩, 1, 1, none, 0, 0, awP⟩, none, 0, 0, []⟩) := ⟨S4.below b5, ⟨V5, SSrc.empty _, (show (1 : Nat) ≤ 17592186044415 by decide)⟩, RcS.empty _⟩
 have HN5 : Hid (FcN (G + 1) ⟨some ⟨g4, 0, none⟩, 3, 3, [aw1, aw2, aw3], ⟨some ⟨g4 + 1, 0, none⟩, 1, 1, none, 0, 0, awP⟩, none, 0, 0, []⟩) := ⟨fun ad e => by cases e; exact hgg, ⟨fun ad e => by cases e; exact Nat.le_succ_of_le hgg, fun ad e => (by cases e)⟩, fun ad e => (by cases e), fun c hc => (by cases hc)⟩
 have HE := hide (give_fs (w := w) SomeD HX5.out HF5.out ⟨Nat.le_refl _, fun _ => rfl⟩ HN5.out HB5.out (by rw [HGs.out]; exact Nat.le_refl _) ⟨rfl, rfl, rfl, rfl, rfl⟩)
 have stz := run_stFa (m' := mkF ⟨some ⟨g4, 0, none⟩, 3, 3, [aw1, aw2, aw3], ⟨some ⟨g4 + 1, 0, none⟩, 1, 1, none, 0, 0, awP⟩, none, 0, 0, []⟩) HX5.out
 replace stz : (stFa (.pointer (some ⟨G, 0, none⟩)) (.agg #[.slice (some ⟨g4, 0, none⟩) 3 3, .slice (some ⟨g4 + 1, 0, none⟩) 1 1, .slice none 0 0, .slice none 0 0])).run Tryz.prog w5 = .ok () (w5.setRow G (FaC (mkF ⟨some ⟨g4, 0, none⟩, 3, 3, [aw1, aw2, aw3], ⟨some ⟨g4 + 1, 0, none⟩, 1, 1, none, 0, 0, awP⟩, none, 0, 0, []⟩))) := stz
 clear S4 b4 V5 b5 hgg
 go_wp2_with fail
 refine bodyPost_ret (res1Fa rfl rfl HE.out.1) rfl ?_
 exact HE.out.2
def BarD (f : Fc) : Prop := f.es = [] ∧ f.an = 0 ∧ f.p.P = pv0.P ∧ (∃ r, f.rs = [r] ∧ r.s = ⟨#[65]⟩ ∧ r.p.P = awQ) ∧ f.rn = 1
set_option maxRecDepth 100000 in
theorem barL_any (w : World) : Calls Tryz.prog 22 #[] w fun e w' => FcS w w' e BarD := by
 have b0 := below_new w (.cells (FaC (mkF fz0)) 29)
 have X0 := FaBox_new w (mkF fz0)
 have z0 : (w.alloc (.cells (FaC (mkF fz0)) 29)).heap.size = w.heap.size + 1 := by simp
 obtain ⟨w3, hw3⟩ : ∃ w0, w.alloc (.cells (FaC (mkF fz0)) 29) = w0 := ⟨_, rfl⟩
 obtain ⟨G, hG⟩ : ∃ G, w.heap.size = G := ⟨_, rfl⟩
 rw [hw3] at b0 X0 z0
 rw [hG] at X0 z0
 have HGs : Hid (w.heap.size = G) := hG
 have V4 := vsrc_lit w3 3 #[.int .i64 0, .int .i64 2] [0, 2] rfl (G + 1) 2 z0 rfl
 have b4 := below_new w3 (.cells #[.int .i64 0, .int .i64 2] 3)
 have z4 : (w3.alloc (.cells #[.int .i64 0, .int .i64 2] 3)).heap.size = G + 2 := by simp [z0]
 obtain ⟨w4, hw4⟩ : ∃ w4, w3.alloc (.cells #[.int .i64 0, .int .i64 2] 3) = w4 := ⟨_, rfl⟩
 rw [hw4] at V4 b4 z4
 have R5 := rcs_lit w4 76 #[.string ⟨#[65]⟩, .slice (some ⟨G + 1, 0, none⟩) 2 2, .slice none 0 0] [⟨⟨#[65]⟩, ⟨some ⟨G + 1, 0, none⟩, 2, 2, none, 0, 0, awQ⟩⟩] rfl (G + 2) 1 z4 rfl (by decide) (fun r hr => by
  obtain rfl := List.mem_singleton.1 hr
  exact ⟨⟨V4, SSrc.empty _, (show (2 : Nat) ≤ 17592186044415 by decide)⟩, (show (1 : Nat) ≤ maxLen by decide)⟩)
 have b5 := below_new w4 (.cells #[.string ⟨#[65]⟩, .slice (some ⟨G + 1, 0, none⟩) 2 2, .slice none 0 0] 76)
 have lb := run_bsR1 ⟨#[65]⟩ (some ⟨G + 1, 0, none⟩) 2 2 w4
 rw [z4] at lb
 obtain ⟨w5, hw5⟩ : ∃ w5, w4.alloc (.cells #[.string ⟨#[65]⟩, .slice (some ⟨G + 1, 0, none⟩) 2 2, .slice none 0 0] 76) = w5 := ⟨_, rfl⟩
 rw [hw5] at R5 b5 lb
 have HX5 := hide ((X0.below b4).below b5)
 have HB5 := hide (b0.trans ((b4.trans (b5.mono b4.size)).mono b0.size))
 have HF5 : Hid (FcOk w5 ⟨none, 0, 0, [], pv0, some ⟨G + 2, 0, none⟩, 1, 1, [⟨⟨#[65]⟩, ⟨some ⟨G + 1, 0, none⟩, 2, 2, none, 0, 0, awQ⟩⟩]⟩) := ⟨esrc_nil _, PSrc.zero _, R5⟩
 have HN5 : Hid (FcN (G + 1) ⟨none, 0, 0, [], pv0, some ⟨G + 2, 0, none⟩, 1, 1, [⟨⟨#[65]⟩, ⟨some ⟨G + 1, 0, none⟩, 2, 2, none, 0, 0, awQ⟩⟩]⟩) := ⟨fun ad e => (by cases e), ⟨fun ad e => (by cases e), fun ad e => (by cases e)⟩, fun ad e => (by cases e; exact Nat.le_succ _), fun c hc => by
  obtain rfl := List.mem_singleton.1 hc
  exact ⟨fun ad e => (by cases e; exact Nat.le_refl _), fun ad e => (by cases e)⟩⟩
 have HE := hide (give_fs (w := w) BarD HX5.out HF5.out ⟨Nat.le_refl _, fun e => (by cases e)⟩ HN5.out HB5.out (by rw [HGs.out]; exact Nat.le_refl _) ⟨rfl, rfl, rfl, ⟨_, rfl, rfl, rfl⟩, rfl⟩)
 have stz := run_stFa (m' := mkF ⟨none, 0, 0, [], pv0, some ⟨G + 2, 0, none⟩, 1, 1, [⟨⟨#[65]⟩, ⟨some ⟨G + 1, 0, none⟩, 2, 2, none, 0, 0, awQ⟩⟩]⟩) HX5.out
 replace stz : (stFa (.pointer (some ⟨G, 0, none⟩)) (.agg #[.slice none 0 0, .slice none 0 0, .slice none 0 0, .slice (some ⟨G + 2, 0, none⟩) 1 1])).run Tryz.prog w5 = .ok () (w5.setRow G (FaC (mkF ⟨none, 0, 0, [], pv0, some ⟨G + 2, 0, none⟩, 1, 1, [⟨⟨#[65]⟩, ⟨some ⟨G + 1, 0, none⟩, 2, 2, none, 0, 0, awQ⟩⟩]⟩))) := stz
 clear b0 X0 V4 b4 R5 b5
 go_enter Tryz.func22, Tryz.ntmps22
 go_wp2_with fail
 refine bodyPost_ret (res1Fa rfl rfl HE.out.1) rfl ?_
 exact HE.out.2
/-! ### what the join is -/
theorem awP_form : InForm awP := ⟨by decide, trivial⟩
theorem awQ_form : InForm awQ := ⟨by decide, trivial⟩
theorem z_form : InForm pv0.P := ⟨by decide, trivial⟩
theorem z_mem (r : Nat) (hr : r < 16) (n : Int) : ¬ mem (runsAt pv0.P r) n := fun h => by
 rw [mem_runs pv0.P r hr] at h
 obtain ⟨h1, -, h2 | ⟨c, hc, -⟩⟩ := h
 ·have : (pv0.P.vec.getD r 0 : Int) = 0 := by simp [pv0]
  omega
 ·cases hc
theorem awQ_full : ¬ EmptyP awQ := fun h => h 1 (by decide) 1 ((mem_runs awQ 1 (by decide) 1).2 ⟨by decide, by decide, .inl (by decide)⟩)
theorem awR_ok {r : Rc} (hs : r.s = ⟨#[65]⟩) (hp : r.p.P = awQ) : RecOk r := ⟨by rw [hs]; decide, by rw [hp]; exact ⟨awQ_form, awQ_full⟩⟩
theorem some_form {f : Fc} (h : SomeD f) : FormF f := ⟨by rw [h.1, h.2.1]; decide, by rw [h.2.2.1]; exact awP_form, by rw [h.2.2.2.1, h.2.2.2.2]; exact okR_zero _⟩
theorem bar_form {f : Fc} (h : BarD f) : FormF f := by
 obtain ⟨h1, h2, h3, ⟨r, h4, h5, h6⟩, h7⟩ := h
 refine ⟨by rw [h1, h2]; decide, by rw [h3]; exact z_form, ?_⟩
 rw [h4, h7]
 intro j hj
 obtain rfl : j = 0 := by omega
 exact ⟨awR_ok h5 h6, fun h => absurd h (by decide)⟩
structure AwJ (h : Fc) : Prop where
 es : h.es = [aw1, aw2, aw3]
 p : h.p.P = awP
 rs : ∃ r, h.rs = [r] ∧ r.s = ⟨#[65]⟩ ∧ r.p.P = awQ
 form : FormF h
theorem aw_join {f g h : Fc} {er : Int} {w : World} (hh : FcOk w h) (hf : SomeD f) (hg : BarD g) (J : JnOf 0 f g h er) : er = 0 ∧ AwJ h := by
 rcases J with ⟨h1, -⟩ | ⟨-, -, R, e, u, J⟩
 ·exact absurd ⟨some_form hf, bar_form hg⟩ h1
 have hA : K.Asc [aw1, aw2, aw3] := K.chk_asc' (by decide)
 have hu : e = 0 ∧ R = [aw1, aw2, aw3] := by
  rw [hf.1, hg.1] at u
  exact K.union_of (R := [aw1, aw2, aw3]) hA List.Pairwise.nil (chk_ce (by decide)) hA (fun x => by simp) u
 obtain ⟨rfl, rfl⟩ := hu
 rcases J with ⟨h1, -⟩ | ⟨-, rfl, h1, h2, h3, -⟩
 ·exact absurd rfl h1
 obtain ⟨g1, g2, g3, ⟨r, g4, g5, g6⟩, g7⟩ := hg
 have hr := awR_ok g5 g6
 have e3 : UnOf [] [r] [r] := ⟨⟨srt_small (show 1 < 2 by decide), fun x => by simp [plR]⟩, fun x hx => by obtain rfl := List.mem_singleton.1 hx; exact hr⟩
 rw [hf.2.2.2.1, g4] at h3
 have e4 := h3.one e3
 have hP : h.p.P = awP := by
  have e5 : CanonOf (runsAt awP) awP := canon_iff.2 awP_form
  refine h2.unique e5 fun k hk n => ?_
  show mem (runsAt f.p.P k ++ (runsAt g.p.P k ++ [])) n ↔ _
  rw [hf.2.2.1, g3, List.append_nil, mem_append]
  exact ⟨fun q => q.elim id (fun q => absurd q (z_mem k hk n)), .inl⟩
 obtain ⟨q, hq⟩ : ∃ q, h.rs = [q] := by
  have hl : (plR h.rs).length = 1 := by rw [e4]; rfl
  rw [plR_len] at hl
  match hm : h.rs, hl with
  | [q], _ => exact ⟨q, rfl⟩
 rw [hq] at e4
 have e6 : rck q = rck r := by simpa [plR, rck] using e4
 have e7 : q.s = r.s := congrArg Prod.fst e6
 have e8 : q.p.P = r.p.P := congrArg Prod.snd e6
 refine ⟨rfl, h1, hP, ⟨q, hq, by rw [e7]; exact g5, by rw [e8]; exact g6⟩, ?_, by rw [hP]; exact awP_form, ?_⟩
 ·rw [← hh.es.1, h1]; decide
 ·have := h3.ok
  rwa [hh.rs.len] at this
theorem aw_live {h : Fc} (J : AwJ h) : liveL h = [aw2] := by
 obtain ⟨r, h1, h2, h3⟩ := J.rs
 obtain ⟨s, p⟩ := r
 have h2' : s = ⟨#[65]⟩ := h2
 have h3' : p.P = awQ := h3
 subst h2'
 unfold liveL
 rw [J.es, J.p, h1]
 have e1 : [aw1, aw2, aw3].filter (pkB awP false) = [aw2, aw3] := by decide
 rw [e1]
 have f2 : covB ⟨⟨#[65]⟩, p⟩ aw2 = false := by
  show ((decide ((⟨#[65]⟩ : ByteArray).size = 0) || ((⟨#[65]⟩ : ByteArray).toList == aw2.sku.toList)) && inB p.P aw2) = false
  rw [h3']; decide +kernel
 have f3 : covB ⟨⟨#[65]⟩, p⟩ aw3 = true := by
  show ((decide ((⟨#[65]⟩ : ByteArray).size = 0) || ((⟨#[65]⟩ : ByteArray).toList == aw3.sku.toList)) && inB p.P aw3) = true
  rw [h3']; decide +kernel
 simp [freeB, f2, f3]
theorem aw_wt {h : Fc} {w : World} (hh : FcOk w h) (J : AwJ h) (s : ByteArray) : wt (ofS h.rs s) ≤ 8796093022207 := by
 obtain ⟨r, h1, -, -⟩ := J.rs
 have hr := hh.rs.ok r (by rw [h1]; exact List.mem_singleton.2 rfl)
 have h4 := hr.1.cloud.big
 have h5 := hr.1.cloud.len
 rw [h1]
 unfold ofS
 by_cases e : r.s = s
 ·rw [List.filter_cons_of_pos (by simpa using e)]
  show 1 + r.p.P.cloud.length + 0 ≤ _
  omega
 ·rw [List.filter_cons_of_neg (by simpa using e)]
  exact Nat.zero_le _
set_option maxRecDepth 100000 in
set_option maxHeartbeats 1600000 in
theorem awake_any (w : World) : Calls Tryz.prog 6 #[] w fun e w' => e = .returned (.bool true) ∧ Below w.heap.size w w' := by
 go_enter Tryz.func6, Tryz.ntmps6
 go_wp2_with fail
 refine (someL_any w).mono ?_
 rintro e w1 ⟨f, rfl, F1, R1, -, b1, D1⟩
 have HF1 := hide F1
 have HR1 := hide R1
 have HD1 := hide D1
 have HB1 := hide b1
 clear F1 R1 D1 b1
 go_wp2_with fail
 refine (barL_any _).mono ?_
 rintro e w2 ⟨g, rfl, F2, R2, -, b2, D2⟩
 have HF2 : Hid (FcOk w2 f ∧ FcOk w2 g) := ⟨HF1.out.below b2, F2⟩
 have HR2 := hide R2
 have HD2 := hide D2
 have HB2 := hide (HB1.out.trans (b2.mono HB1.out.size))
 clear F2 R2 D2 b2
 go_wp2_with fail
 refine (tJoin_any f g _ HF2.out.1 HF2.out.2 HR1.out HR2.out (by rw [HD1.out.2.2.2.2, HD2.out.2.2.2.2]; decide)).mono ?_
 rintro e w3 ⟨h, er, rfl, F3, R3, N3, b3, J3⟩
 obtain ⟨rfl, AJ⟩ := aw_join F3 HD1.out HD2.out J3
 have HB3 := hide (HB2.out.trans (b3.mono HB2.out.size))
 obtain ⟨g4, hg4⟩ : ∃ g4, w3.heap.size = g4 := ⟨_, rfl⟩
 obtain ⟨w4, hst, X4, B4, -⟩ := madeFa w3 (mkF h) g4 hg4
 have HX4 := hide X4
 have HF4 := hide (F3.below B4)
 have HAJ := hide AJ
 have HB4 := hide (HB3.out.trans (B4.mono HB3.out.size))
 have han : h.an = 3 := by rw [← F3.es.1, AJ.es]; rfl
 have hrn : h.rn = 1 := by obtain ⟨r, h1, -⟩ := AJ.rs; rw [← F3.rs.len, h1]; rfl
 obtain ⟨c0, c3⟩ := HX4.out.cs
 rw [han] at c0
 rw [hrn] at c3
 have HM : Hid (h.rn * (h.an + 1) ≤ 8796093022207) := by show h.rn * _ ≤ _; rw [han, hrn]; decide
 have lh := run_ldFa HX4.out
 replace hst : (stFa (.pointer (some ⟨g4, 0, none⟩)) (FaV (mkF h))).run Tryz.prog (w3.alloc (.cells (FaC (mkF fz0)) 29)) = .ok () w4 := hst
 clear F3 R3 N3 b3 J3 AJ X4 B4 han hrn
 go_wp2_with fail
 clear hst hg4 c0 c3 lh
 refine (tLive_any h _ HF4.out (aw_wt HF4.out HAJ.out) HM.out).mono ?_
 rintro e w5 h5
 rcases h5 with ⟨-, ao, n, c, rfl, S5, b5, -⟩ | ⟨hno, -⟩
 rotate_left
 ·exact absurd HAJ.out.form hno
 rw [aw_live HAJ.out] at S5
 obtain rfl : n = 1 := S5.1.symm
 have HS5 := hide S5
 have HB5 := hide (HB4.out.trans (b5.mono HB4.out.size))
 obtain ⟨ad, hao, A0⟩ := S5.at 0 (by decide)
 subst hao
 rw [Nat.zero_mul, K.add_zero] at A0
 replace A0 : K.EnAt w5 ad aw2 := A0
 obtain ⟨b6, o6, rfl⟩ : ∃ b o, ad = ⟨b, o, none⟩ := by
  have hsp := World.cell?_spot A0.c0
  obtain ⟨b, o, sp⟩ := ad
  have hsp2 : sp = none := hsp
  subst hsp2
  exact ⟨b, o, rfl⟩
 have HA0 := hide A0
 clear S5 b5 A0
 go_upto_region 5 with fail
 refine wp_region_held_drew (S := fun v => (K.ld28 (.pointer (some ⟨b6, o6, none⟩))).run Tryz.prog v = .ok (K.EV aw2) v) (by kernel_rfl) (K.run_ld28 (HA0.out.on (below_drew1 w5))) (fun hHeld => ?_)
 refine wTk 0 ⟨some 29, .move (.tmp 2), 31, "law.go:34", #[], none⟩ rfl ?_
 refine wTk 1 ⟨some 30, .binOp .eql 31 (.tmp 29) (.const (.int .i64 0)) 31, 4, "law.go:34", #[⟨0, .data⟩], none⟩ rfl ?_
 refine wTk 2 ⟨some 31, .move (.tmp 30), 4, "law.go:34", #[⟨1, .data⟩], none⟩ rfl ?_
 refine wTk 3 ⟨some 32, .move (.tmp 3), 22, "law.go:34", #[⟨2, .guard⟩], some (2, true)⟩ rfl ?_
 refine wTk 4 ⟨some 33, .call ⟨.builtin .len, #[.tmp 32], #[22]⟩, 3, "law.go:34", #[⟨3, .data⟩, ⟨2, .guard⟩], some (2, true)⟩ rfl ?_
 refine wTk 5 ⟨some 34, .binOp .eql 3 (.tmp 33) (.const (.int .i64 1)) 3, 4, "law.go:34", #[⟨4, .data⟩, ⟨2, .guard⟩], some (2, true)⟩ rfl ?_
 refine wTk 6 ⟨some 35, .pick (.tmp 31) (.tmp 34) (.const (.bool false)), 4, "law.go:34", #[⟨2, .data⟩, ⟨5, .data⟩], none⟩ rfl ?_
 refine wTk 7 ⟨some 36, .move (.tmp 35), 4, "law.go:34", #[⟨6, .data⟩, ⟨2, .chain⟩], none⟩ rfl ?_
 refine wTk 8 ⟨some 37, .move (.tmp 3), 22, "law.go:34", #[⟨7, .guard⟩], some (7, true)⟩ rfl ?_
 refine wTk 9 ⟨some 38, .indexAddr 22 (.tmp 37) (.const (.int .i64 0)), 0, "law.go:34", #[⟨8, .data⟩, ⟨7, .guard⟩], some (7, true)⟩ rfl ?_
 refine wTk 10 ⟨some 39, .load 48 (.tmp 38), 48, "law.go:34", #[⟨9, .data⟩, ⟨7, .guard⟩], some (7, true)⟩ rfl ?_
 refine wpAnyH_ready (rs := [11]) (by kernel_rfl) (by simp) (.cons rfl (fun K hK => ?_) .nil)
 go_simp
 go_wp2_with fail
 refine (entryL_any 0 2 2 ⟨#[66]⟩ _).mono ?_
 rintro e w7 ⟨rfl, b7⟩
 have hB7 : Below w5.heap.size w5 w7 := (below_drew1 w5).trans b7
 have HB7 := hide (HB5.out.trans (hB7.mono HB5.out.size))
 refine hK.out _ _ (Go.Proofs.YtehcehhfdhiomaaGreat.K.run_ld28 (HA0.out.on hB7)) (fun hHeld => ?_)
 clear hK K b7 hB7
 have leq : ∀ W : World, (Op.equalIn 10000 48 (K.EV aw2) (K.EV ⟨0, 2, ⟨#[66]⟩, 2⟩)).run Tryz.prog W = .ok true W := fun W => (Go.Proofs.YtehcehhfdhiomaaGreat.K.run_eq28 aw2 ⟨0, 2, ⟨#[66]⟩, 2⟩ W).trans (congrArg (fun b => Result.ok b W) (Go.Proofs.YtehcehhfdhiomaaGreat.K.eqE_self aw2))
 refine wTk 12 ⟨some 41, .binOp .eql 48 (.tmp 39) (.tmp 40) 48, 4, "law.go:34", #[⟨10, .data⟩, ⟨11, .data⟩, ⟨7, .guard⟩], some (7, true)⟩ rfl ?_
 refine wTk 13 ⟨some 42, .pick (.tmp 36) (.tmp 41) (.const (.bool false)), 4, "law.go:34", #[⟨7, .data⟩, ⟨12, .data⟩], none⟩ rfl ?_
 refine wTk 14 ⟨some 0, .assign (.tmp 42), 4, "law.go:34", #[⟨13, .data⟩, ⟨11, .chain⟩, ⟨0, .phase⟩, ⟨1, .phase⟩, ⟨2, .phase⟩, ⟨3, .phase⟩, ⟨4, .phase⟩, ⟨5, .phase⟩, ⟨6, .phase⟩, ⟨7, .phase⟩, ⟨8, .phase⟩, ⟨9, .phase⟩, ⟨10, .phase⟩, ⟨11, .phase⟩, ⟨12, .phase⟩, ⟨13, .phase⟩], none⟩ rfl ?_
 refine wpAnyH_done (by kernel_rfl) ?_ _
 clear hHeld
 clear leq
 go_wp2_with fail
 go_ret
 exact ⟨rfl, HB7.out⟩
end Go.Proofs.YtehcehhfdhiomaaGreat
namespace Go.Proofs.YtehcehhfdhiomaaGreat
open Go.ChangeShapes Go.WideShapes Go.ChangeAt Go.RowKit Go.Joins

theorem own : ownKnob Tryz.prog.godebug = none := by kernel_rfl
theorem laidOut : laidOutB Tryz.prog = true := by kernel_rfl
theorem cellsS : Tryz.prog.cellsOf 65 = 3 := by kernel_rfl
theorem cellsI : Tryz.prog.cellsOf 3 = 1 := by kernel_rfl
theorem cellsP : Tryz.prog.cellsOf 26 = 2 := by kernel_rfl
theorem cellsV : Tryz.prog.cellsOf 23 = 1 := by kernel_rfl
theorem cellsC : Tryz.prog.cellsOf 24 = 1 := by kernel_rfl
theorem bulk_pos {H : Type} (d : DataW H) : 1 ≤ Rows.uptoBulk d := by
 cases d with
 | lit l => cases l <;> simp only [Rows.uptoBulk] <;> omega
 | _ => simp only [Rows.uptoBulk] <;> omega
theorem bulk_len {H : Type} : ∀ (l : List (DataW H)), l.length ≤ Rows.uptoBulkAll l
 | [] => by simp
 | d :: l => by have := bulk_len l; have := bulk_pos d; simp only [Rows.uptoBulkAll, List.length_cons]; omega
theorem list2 {α : Type} {l : List α} (h : l.length = 2) : ∃ a b, l = [a, b] := by
 match l, h with
 | [a, b], _ => exact ⟨a, b, rfl⟩
theorem list3 {α : Type} {l : List α} (h : l.length = 3) : ∃ a b c, l = [a, b, c] := by
 match l, h with
 | [a, b, c], _ => exact ⟨a, b, c, rfl⟩
theorem open_span {H : Type} {enc : TypeId × Value → H} {w : World} {base : Nat} {spare : Nat → Bool} {held : Bool} {fuel : Nat} {cs : List Value} {x : DataW H × List MemPlace}
  (h : DataW.trod enc Tryz.prog w base spare held fuel 65 cs = some x) : ∃ e : Sn, cs = (SC e).toList := by
 obtain ⟨xs, m, _, hx, hcl, hxl, hf⟩ := DataW.trod_struct Tryz.underlying65 h
 obtain ⟨v0, v1, v2, rfl⟩ := list3 (hcl.trans cellsS)
 obtain ⟨y0, y1, y2, rfl⟩ := list3 hxl
 have t0 := hf 0 _ rfl
 have t1 := hf 1 _ rfl
 have t2 := hf 2 _ rfl
 simp [cellsI] at t0 t1 t2
 obtain ⟨r, e0, -, _⟩ := DataW.trod_int Tryz.underlying3 t0
 obtain ⟨n, e1, -, _⟩ := DataW.trod_int Tryz.underlying3 t1
 obtain ⟨m', e2, -, _⟩ := DataW.trod_int Tryz.underlying3 t2
 simp only [List.cons.injEq, and_true] at e0 e1 e2
 subst e0 e1 e2
 exact ⟨⟨r, n, m'⟩, rfl⟩
theorem viewI {H : Type} {enc : TypeId × Value → H} {W : World} {fuel : Nat} {v : Value} {x : DataW H × List MemPlace}
  (h : DataW.trod enc Tryz.prog W 0 (fun _ => true) true fuel 23 [v] = some x) (hw : Rows.uptoBulk x.1 ≤ 1048576) : ∃ (ao : Option Addr) (n cap : Nat) (Z : List Int), v = .slice ao n cap ∧ V.Src W ao n cap Z ∧ n ≤ 1048576 := by
 rcases DataW.trod_slice Tryz.underlying23 h with h0 | ⟨a, len, cap, elems, rest, n, _, hcs, hx, hb, hl, hm, hlen, hel, hsp, hns⟩
 ·have e : v = .slice none 0 0 := by simpa using h0.1
  exact ⟨none, 0, 0, [], e, ⟨rfl, fun _ => ⟨rfl, rfl⟩, fun ad h => (by cases h)⟩, Nat.zero_le _⟩
 ·subst hx
  have e : v = .slice (some a) len cap := by simpa using hcs
  simp only [Rows.uptoBulk] at hw
  have h1 := bulk_len (elems.map (·.1))
  simp only [List.length_map] at h1
  have key : ∀ i, i < len → ∃ z : Int, W.cell? (a.add i) = some (.int .i64 z) := by
   intro i hi
   have he := hel i hi
   obtain ⟨y, hy⟩ : ∃ y, elems[i]? = some y := ⟨_, List.getElem?_eq_getElem (by omega)⟩
   rw [hy, cellsI, Option.bind_eq_some_iff] at he
   obtain ⟨cs', hcs, hy'⟩ := he
   obtain ⟨hl', -, hce⟩ := World.cells?_some hcs
   obtain ⟨z, rfl, -, _⟩ := DataW.trod_int Tryz.underlying3 hy'
   have g0 := hce 0 (by omega)
   rw [add_zero, Nat.mul_one] at g0
   exact ⟨z, g0⟩
  refine ⟨some a, len, cap, (List.range len).map fun i => if h : i < len then Classical.choose (key i h) else 0, e, ⟨by simp, fun h => (by cases h), fun ad h t ht => ?_⟩, by omega⟩
  obtain rfl := Option.some.inj h
  have : ((List.range len).map fun i => if h : i < len then Classical.choose (key i h) else 0).getD t 0 = Classical.choose (key t ht) := by simp [List.getD, ht]
  rw [this]
  exact Classical.choose_spec (key t ht)
theorem viewC {H : Type} {enc : TypeId × Value → H} {W : World} {fuel : Nat} {v : Value} {x : DataW H × List MemPlace}
  (h : DataW.trod enc Tryz.prog W 0 (fun _ => true) true fuel 24 [v] = some x) (hw : Rows.uptoBulk x.1 ≤ 1048576) : ∃ (ao : Option Addr) (n cap : Nat) (L : List Sn), v = .slice ao n cap ∧ SSrc W ao n cap L ∧ n ≤ 1048576 := by
 rcases DataW.trod_slice Tryz.underlying24 h with h0 | ⟨a, len, cap, elems, rest, n, _, hcs, hx, hb, hl, hm, hlen, hel, hsp, hns⟩
 ·have e : v = .slice none 0 0 := by simpa using h0.1
  exact ⟨none, 0, 0, [], e, SSrc.empty _, Nat.zero_le _⟩
 ·subst hx
  have e : v = .slice (some a) len cap := by simpa using hcs
  simp only [Rows.uptoBulk] at hw
  have h1 := bulk_len (elems.map (·.1))
  simp only [List.length_map] at h1
  have key : ∀ i, i < len → ∃ e : Sn, SnAt W (a.add (i * 3)) e := by
   intro i hi
   have he := hel i hi
   obtain ⟨y, hy⟩ : ∃ y, elems[i]? = some y := ⟨_, List.getElem?_eq_getElem (by omega)⟩
   rw [hy, cellsS, Option.bind_eq_some_iff] at he
   obtain ⟨cs', hcs, hy'⟩ := he
   obtain ⟨_, -, hce⟩ := World.cells?_some hcs
   obtain ⟨e, rfl⟩ := open_span hy'
   have g0 := hce 0 (by omega)
   rw [add_zero] at g0
   exact ⟨e, ⟨g0, hce 1 (by omega), hce 2 (by omega)⟩⟩
  refine ⟨some a, len, cap, (List.range len).map fun i => if h : i < len then Classical.choose (key i h) else sn0, e, ⟨by simp, fun h => (by cases h), fun ad h t ht => ?_, by omega, hl⟩, by omega⟩
  obtain rfl := Option.some.inj h
  have : ((List.range len).map fun i => if h : i < len then Classical.choose (key i h) else sn0).getD t sn0 = Classical.choose (key t ht) := by simp [List.getD, ht]
  rw [this]
  exact Classical.choose_spec (key t ht)
theorem viewP {H : Type} {enc : TypeId × Value → H} {W : World} {fuel : Nat} {cs : List Value} {x : DataW H × List MemPlace}
  (h : DataW.trod enc Tryz.prog W 0 (fun _ => true) true fuel 26 cs = some x) (hw : Rows.uptoBulk x.1 ≤ 1048576) : ∃ p : Pv, cs = [.slice p.vo p.vn p.vc, .slice p.co p.cn p.cc] ∧ PSrc W p ∧ p.P.cloud.length ≤ 1048576 := by
 obtain ⟨xs, m, _, hx, hcl, hxl, hf⟩ := DataW.trod_struct Tryz.underlying26 h
 obtain ⟨v0, v1, rfl⟩ := list2 (hcl.trans cellsP)
 obtain ⟨y0, y1, rfl⟩ := list2 hxl
 have t0 := hf 0 _ rfl
 have t1 := hf 1 _ rfl
 simp [cellsV, cellsC] at t0 t1
 subst hx
 simp only [Rows.uptoBulk, List.map_cons, List.map_nil, Rows.uptoBulkAll] at hw
 obtain ⟨a0, l0, c0, Z, rfl, S0, g0⟩ := viewI t0 (by omega)
 obtain ⟨a1, l1, c1, L, rfl, S1, g1⟩ := viewC t1 (by omega)
 exact ⟨⟨a0, l0, c0, a1, l1, c1, ⟨Z, L⟩⟩, rfl, ⟨S0, S1, by show l0 ≤ _; omega⟩, by show L.length ≤ _; rw [S1.len]; exact g1⟩
end Go.Proofs.YtehcehhfdhiomaaGreat
namespace Go.Proofs.YtehcehhfdhiomaaGreat.K
open Go.ChangeShapes Go.WideShapes Go.ChangeAt Go.RowKit Go.Joins

theorem cells28 : Tryz.prog.cellsOf 48 = 4 := by kernel_rfl
theorem cells26 : Tryz.prog.cellsOf 46 = 2 := by kernel_rfl
theorem cells3 : Tryz.prog.cellsOf 3 = 1 := by kernel_rfl
theorem cells9 : Tryz.prog.cellsOf 9 = 1 := by kernel_rfl
theorem list2 {α : Type} {l : List α} (h : l.length = 2) : ∃ a b, l = [a, b] := by
 match l, h with
 | [a, b], _ => exact ⟨a, b, rfl⟩
theorem list3 {α : Type} {l : List α} (h : l.length = 3) : ∃ a b c, l = [a, b, c] := by
 match l, h with
 | [a, b, c], _ => exact ⟨a, b, c, rfl⟩
theorem list4 {α : Type} {l : List α} (h : l.length = 4) : ∃ a b c d, l = [a, b, c, d] := by
 match l, h with
 | [a, b, c, d], _ => exact ⟨a, b, c, d, rfl⟩
theorem open_entry {H : Type} {enc : TypeId × Value → H} {w : World} {base : Nat} {spare : Nat → Bool} {held : Bool} {fuel : Nat} {cs : List Value} {x : DataW H × List MemPlace}
  (h : DataW.trod enc Tryz.prog w base spare held fuel 48 cs = some x) : ∃ e : En, cs = (EC e).toList ∧ e.sku.size ≤ maxLen := by
 obtain ⟨xs, m, _, hx, hcl, hxl, hf⟩ := DataW.trod_struct Tryz.underlying48 h
 obtain ⟨v0, v1, v2, v3, rfl⟩ := list4 (hcl.trans cells28)
 obtain ⟨y0, y1, y2, rfl⟩ := list3 hxl
 have t0 := hf 0 _ rfl
 have t1 := hf 1 _ rfl
 have t2 := hf 2 _ rfl
 simp [cells3, cells9, cells26] at t0 t1 t2
 obtain ⟨xs', m', _, hx', hcl', hxl', hf'⟩ := DataW.trod_struct Tryz.underlying46 t0
 obtain ⟨z0, z1, rfl⟩ := list2 hxl'
 have s0 := hf' 0 _ rfl
 have s1 := hf' 1 _ rfl
 simp [cells3] at s0 s1
 obtain ⟨r, e0, -, _⟩ := DataW.trod_int Tryz.underlying3 s0
 obtain ⟨n, e1, -, _⟩ := DataW.trod_int Tryz.underlying3 s1
 obtain ⟨s, e2, -, w2⟩ := DataW.trod_string Tryz.underlying9 t1
 obtain ⟨q, e3, -, _⟩ := DataW.trod_int Tryz.underlying3 t2
 simp only [List.cons.injEq, and_true] at e0 e1 e2 e3
 subst e0 e1 e2 e3
 exact ⟨⟨r, n, s, q⟩, rfl, w2⟩
end Go.Proofs.YtehcehhfdhiomaaGreat.K
namespace Go.Proofs.YtehcehhfdhiomaaGreat
open Go.ChangeShapes Go.WideShapes Go.ChangeAt Go.RowKit Go.Joins

def RSmT (L : List Rc) : Prop := L.length ≤ 209715 ∧ ∀ r ∈ L, r.p.P.cloud.length ≤ 1048576
structure FcU (w : World) (f : Fc) : Prop where
 ok : FcOk w f
 row : FcR f
 sm : RSmT f.rs
 an : f.an ≤ 1048576
theorem FcU.rn {w : World} {f : Fc} (h : FcU w f) : f.rn ≤ 209715 := by rw [← h.ok.rs.len]; exact h.sm.1
theorem cellsRe : Tryz.prog.cellsOf 76 = 3 := by kernel_rfl
theorem cellsSk : Tryz.prog.cellsOf 9 = 1 := by kernel_rfl
theorem cellsEs : Tryz.prog.cellsOf 22 = 1 := by kernel_rfl
theorem cellsRs : Tryz.prog.cellsOf 27 = 1 := by kernel_rfl
theorem cellsFa : Tryz.prog.cellsOf 29 = 4 := by kernel_rfl
theorem bulk_at {H : Type} : ∀ (l : List (DataW H)) (d : DataW H), d ∈ l → Rows.uptoBulk d ≤ Rows.uptoBulkAll l
 | e :: l, d, h => by
  simp only [Rows.uptoBulkAll]
  rcases List.mem_cons.1 h with rfl | h
  ·omega
  ·have := bulk_at l d h; omega
theorem bulk_five {H : Type} : ∀ (l : List (DataW H)), (∀ d ∈ l, 5 ≤ Rows.uptoBulk d) → 5 * l.length ≤ Rows.uptoBulkAll l
 | [], _ => by simp
 | d :: l, h => by
  have h1 := bulk_five l (fun e he => h e (List.mem_cons_of_mem _ he))
  have h2 := h d List.mem_cons_self
  simp only [Rows.uptoBulkAll, List.length_cons]; omega
theorem viewEu {H : Type} {enc : TypeId × Value → H} {W : World} {fuel : Nat} {v : Value} {x : DataW H × List MemPlace}
  (h : DataW.trod enc Tryz.prog W 0 (fun _ => true) true fuel 22 [v] = some x) (hw : Rows.uptoBulk x.1 ≤ 1048576) : ∃ (ao : Option Addr) (n cap : Nat) (L : List K.En), v = .slice ao n cap ∧ K.ESrc W ao n cap L ∧ n ≤ 1048576 := by
 rcases DataW.trod_slice Tryz.underlying22 h with h0 | ⟨a, len, cap, elems, rest, n, _, hcs, hx, hb, hl, hm, hlen, hel, hsp, hns⟩
 ·have e : v = .slice none 0 0 := by simpa using h0.1
  exact ⟨none, 0, 0, [], e, ⟨rfl, fun _ => ⟨rfl, rfl⟩, fun ad h => (by cases h), fun e he => (by cases he), Nat.zero_le _⟩, Nat.zero_le _⟩
 ·subst hx
  have e : v = .slice (some a) len cap := by simpa using hcs
  simp only [Rows.uptoBulk] at hw
  have h1 := bulk_len (elems.map (·.1))
  simp only [List.length_map] at h1
  have key : ∀ i, i < len → ∃ e : K.En, K.EnAt W (a.add (i * 4)) e ∧ e.sku.size ≤ maxLen := by
   intro i hi
   have he := hel i hi
   obtain ⟨y, hy⟩ : ∃ y, elems[i]? = some y := ⟨_, List.getElem?_eq_getElem (by omega)⟩
   rw [hy, K.cells28, Option.bind_eq_some_iff] at he
   obtain ⟨cs', hcs, hy'⟩ := he
   obtain ⟨_, -, hce⟩ := World.cells?_some hcs
   obtain ⟨e, rfl, hs⟩ := K.open_entry hy'
   have g0 := hce 0 (by omega)
   rw [add_zero] at g0
   exact ⟨e, ⟨g0, hce 1 (by omega), hce 2 (by omega), hce 3 (by omega)⟩, hs⟩
  refine ⟨some a, len, cap, (List.range len).map fun i => if h : i < len then Classical.choose (key i h) else K.en0, e, ⟨by simp, fun h => (by cases h), fun ad h t ht => ?_, fun e he => ?_, by omega⟩, by omega⟩
  ·obtain rfl := Option.some.inj h
   have : ((List.range len).map fun i => if h : i < len then Classical.choose (key i h) else K.en0).getD t K.en0 = Classical.choose (key t ht) := by simp [List.getD, ht]
   rw [this]
   exact (Classical.choose_spec (key t ht)).1
  ·simp only [List.mem_map, List.mem_range] at he
   obtain ⟨i, hi, rfl⟩ := he
   rw [dif_pos hi]
   exact (Classical.choose_spec (key i hi)).2
theorem past_bulk {H : Type} {enc : TypeId × Value → H} {W : World} {fuel : Nat} {cs : List Value} {x : DataW H × List MemPlace}
  (h : DataW.trod enc Tryz.prog W 0 (fun _ => true) true fuel 26 cs = some x) : 3 ≤ Rows.uptoBulk x.1 := by
 obtain ⟨xs, m, _, hx, hcl, hxl, hf⟩ := DataW.trod_struct Tryz.underlying26 h
 obtain ⟨y0, y1, rfl⟩ := list2 hxl
 subst hx
 have h0 := bulk_pos y0.1
 have h1 := bulk_pos y1.1
 simp only [Rows.uptoBulk, List.map_cons, List.map_nil, Rows.uptoBulkAll]
 omega
theorem open_recordU {H : Type} {enc : TypeId × Value → H} {W : World} {fuel : Nat} {cs : List Value} {x : DataW H × List MemPlace}
  (h : DataW.trod enc Tryz.prog W 0 (fun _ => true) true fuel 76 cs = some x) : 5 ≤ Rows.uptoBulk x.1 ∧ (Rows.uptoBulk x.1 ≤ 1048576 → ∃ r : Rc, cs = (ReC (mkR r)).toList ∧ RcOk W r ∧ r.p.P.cloud.length ≤ 1048576) := by
 obtain ⟨xs, m, _, hx, hcl, hxl, hf⟩ := DataW.trod_struct Tryz.underlying76 h
 obtain ⟨v0, v1, v2, rfl⟩ := list3 (hcl.trans cellsRe)
 obtain ⟨y0, y1, rfl⟩ := list2 hxl
 have t0 := hf 0 _ rfl
 have t1 := hf 1 _ rfl
 simp [cellsP, cellsSk] at t0 t1
 subst hx
 simp only [Rows.uptoBulk, List.map_cons, List.map_nil, Rows.uptoBulkAll]
 have b0 := bulk_pos y0.1
 have b1 := past_bulk t1
 refine ⟨by omega, fun hw => ?_⟩
 obtain ⟨s, e0, -, hs⟩ := DataW.trod_string Tryz.underlying9 t0
 obtain ⟨p, ep, Sp, hl⟩ := viewP t1 (by omega)
 simp only [List.cons.injEq, and_true] at e0 ep
 obtain ⟨rfl, rfl⟩ := ep
 subst e0
 exact ⟨⟨s, p⟩, rfl, ⟨Sp, hs⟩, hl⟩
theorem viewRT {H : Type} {enc : TypeId × Value → H} {W : World} {fuel : Nat} {v : Value} {x : DataW H × List MemPlace}
  (h : DataW.trod enc Tryz.prog W 0 (fun _ => true) true fuel 27 [v] = some x) (hw : Rows.uptoBulk x.1 ≤ 1048576) : ∃ (ao : Option Addr) (n cap : Nat) (L : List Rc), v = .slice ao n cap ∧ RcT W ao n cap L ∧ RSmT L := by
 rcases DataW.trod_slice Tryz.underlying27 h with h0 | ⟨a, len, cap, elems, rest, n, _, hcs, hx, hb, hl, hm, hlen, hel, hsp, hns⟩
 ·have e : v = .slice none 0 0 := by simpa using h0.1
  exact ⟨none, 0, 0, [], e, ⟨RcS.empty _, Nat.le_refl _, fun _ => rfl⟩, Nat.zero_le _, fun r hr => by cases hr⟩
 ·subst hx
  have e : v = .slice (some a) len cap := by simpa using hcs
  simp only [Rows.uptoBulk] at hw
  have op : ∀ i (hi : i < elems.length), i < len ∧ ∃ cs', (5 ≤ Rows.uptoBulk elems[i].1 ∧ (Rows.uptoBulk elems[i].1 ≤ 1048576 → ∃ r : Rc, cs' = (ReC (mkR r)).toList ∧ RcOk W r ∧ r.p.P.cloud.length ≤ 1048576)) ∧ (∀ j, j < 3 → W.cell? ((a.add (i * 3)).add j) = cs'[j]?) := by
   intro i hi
   have hi' : i < len := by omega
   have he := hel i hi'
   rw [List.getElem?_eq_getElem hi, cellsRe, Option.bind_eq_some_iff] at he
   obtain ⟨cs', hcs, hy'⟩ := he
   obtain ⟨_, -, hce⟩ := World.cells?_some hcs
   exact ⟨hi', cs', open_recordU hy', fun j hj => hce j hj⟩
  have h5 := bulk_five (elems.map (·.1)) (fun d hd => by
   obtain ⟨y, hy, rfl⟩ := List.mem_map.1 hd
   obtain ⟨i, hi, rfl⟩ := List.getElem_of_mem hy
   obtain ⟨-, _, h, -⟩ := op i hi
   exact h.1)
  simp only [List.length_map] at h5
  have key : ∀ i, i < len → ∃ r : Rc, ReAt W (a.add (i * 3)) (mkR r) ∧ RcOk W r ∧ r.p.P.cloud.length ≤ 1048576 := by
   intro i hi
   have hi' : i < elems.length := by omega
   obtain ⟨-, cs', h, hce⟩ := op i hi'
   obtain ⟨r, rfl, hr, hl2⟩ := h.2 (by have := bulk_at (elems.map (·.1)) elems[i].1 (List.mem_map_of_mem (f := (·.1)) (List.getElem_mem hi')); omega)
   have g0 := hce 0 (by omega)
   rw [add_zero] at g0
   exact ⟨r, ⟨g0, hce 1 (by omega), hce 2 (by omega)⟩, hr, hl2⟩
  refine ⟨some a, len, cap, (List.range len).map fun i => if h : i < len then Classical.choose (key i h) else rc0, e, ⟨⟨by simp, (fun h => by cases h), fun ad h t ht => ?_, fun r hr => ?_, by omega⟩, hl, fun h => by cases h⟩, by simp; omega, fun r hr => ?_⟩
  ·obtain rfl := Option.some.inj h
   have : ((List.range len).map fun i => if h : i < len then Classical.choose (key i h) else rc0).getD t rc0 = Classical.choose (key t ht) := by simp [List.getD, ht]
   rw [this]
   exact (Classical.choose_spec (key t ht)).1
  ·simp only [List.mem_map, List.mem_range] at hr
   obtain ⟨i, hi, rfl⟩ := hr
   rw [dif_pos hi]
   exact (Classical.choose_spec (key i hi)).2.1
  ·simp only [List.mem_map, List.mem_range] at hr
   obtain ⟨i, hi, rfl⟩ := hr
   rw [dif_pos hi]
   exact (Classical.choose_spec (key i hi)).2.2
theorem open_factsU {H : Type} {enc : TypeId × Value → H} {W : World} {fuel : Nat} {cs : List Value} {x : DataW H × List MemPlace}
  (h : DataW.trod enc Tryz.prog W 0 (fun _ => true) true fuel 29 cs = some x) (hw : Rows.uptoBulk x.1 ≤ 1048576) : ∃ f : Fc, cs = (FaC (mkF f)).toList ∧ FcU W f := by
 obtain ⟨xs, m, _, hx, hcl, hxl, hf⟩ := DataW.trod_struct Tryz.underlying29 h
 obtain ⟨v0, v1, v2, v3, rfl⟩ := K.list4 (hcl.trans cellsFa)
 obtain ⟨y0, y1, y2, rfl⟩ := list3 hxl
 have t0 := hf 0 _ rfl
 have t1 := hf 1 _ rfl
 have t2 := hf 2 _ rfl
 simp [cellsP, cellsEs, cellsRs] at t0 t1 t2
 subst hx
 simp only [Rows.uptoBulk, List.map_cons, List.map_nil, Rows.uptoBulkAll] at hw
 obtain ⟨ro, rn, rc, R, rfl, Sr, r1⟩ := viewRT t2 (by omega)
 obtain ⟨ao, an, ac, A, rfl, Sa, a1⟩ := viewEu t0 (by omega)
 obtain ⟨p, ep, Sp, -⟩ := viewP t1 (by omega)
 simp only [List.cons.injEq, and_true] at ep
 obtain ⟨rfl, rfl⟩ := ep
 exact ⟨⟨ao, an, ac, A, p, ro, rn, rc, R⟩, rfl, ⟨Sa, Sp, Sr.src⟩, ⟨Sr.room, Sr.nil⟩, r1, a1⟩
end Go.Proofs.YtehcehhfdhiomaaGreat
