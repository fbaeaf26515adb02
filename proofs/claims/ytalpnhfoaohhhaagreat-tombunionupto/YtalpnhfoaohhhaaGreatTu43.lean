/- TAw TOl -/
import Derived.Test.YtalpnhfoaohhhaaGreatTk
import Derived.Test.YtalpnhfoaohhhaaGreatTu41
import Derived.Test.YtalpnhfoaohhhaaGreatTu42
import Derived.Test.YtalpnhfoaohhhaaGreatTu24
import Derived.Test.YtalpnhfoaohhhaaGreatTu39
namespace Go.Proofs.YtalpnhfoaohhhaaGreat
open Go.RowKit
def FcS (w w' : World) (e : Ending) (D : Fc → Prop) : Prop := ∃ f, e = .returned (FaV (mkF f)) ∧ FcOk w' f ∧ FcR f ∧ FcN w.heap.size f ∧ Below w.heap.size w w' ∧ D f
theorem give_fs {w W : World} {g : Nat} {m0 : FacV} {f : Fc} (D : Fc → Prop) (hX : FaBox W g m0) (hF : FcOk W f) (hr : FcR f) (hn : FcN (g + 1) f) (hb : Below w.heap.size w W) (hg : w.heap.size ≤ g) (hD : D f) :
  FaBox (W.setRow g (FaC (mkF f))) g (mkF f) ∧ FcS w (W.setRow g (FaC (mkF f))) (.returned (FaV (mkF f))) D :=
 ⟨hX.setRow, f, rfl, hF.off2 hn (fun k hk => setRow_other _ _ _ _ (by omega)), hr, hn.mono (by omega), below_setRow hb hg, hD⟩
def aw1 : K.En := ⟨0, 1, ⟨#[65]⟩, 5⟩
def aw2 : K.En := ⟨0, 2, ⟨#[66]⟩, 2⟩
def aw3 : K.En := ⟨1, 1, ⟨#[65]⟩, 1⟩
def awP : Pst := ⟨[1], []⟩
def awQ : Pst := ⟨[0, 2], []⟩
theorem resE1 {fn : Func} {p : Tmp} {w : World} {g : Nat} {T : TypeId} {e : K.En} (h : fn.results = #[.cell p 36]) {tmps : Array Value} (hp : tmps.getD p undef = .pointer (some ⟨g, 0, none⟩)) (A : K.Box w g T e) :
  (results fn tmps).run Tryz.prog w = .ok (K.EV e) w := by
 have hl := K.run_lv28 A.at
 simp only [results, h]
 rw [Array.getD_eq_getD_getElem?] at hp
 simp [hp, asAddr, hl]
def bsE3 (a : Array (Nat × Value)) : Sem Value := Instr.buildSlice 22 3 a
theorem bsE3_eq (a : Array (Nat × Value)) : Instr.buildSlice 22 3 a = bsE3 a := rfl
def awC : Array Value := #[.int .i64 0, .int .i64 1, .string ⟨#[65]⟩, .int .i64 5, .int .i64 0, .int .i64 2, .string ⟨#[66]⟩, .int .i64 2, .int .i64 1, .int .i64 1, .string ⟨#[65]⟩, .int .i64 1]
theorem run_bsE3 (w : World) : (bsE3 #[(0, K.EV aw1), (1, K.EV aw2), (2, K.EV aw3)]).run Tryz.prog w = .ok (.slice (some ⟨w.heap.size, 0, none⟩) 3 3) (w.alloc (.cells awC 36)) := by kernel_rfl
theorem run_bldF01 (a v : Option Addr) (n c m d : Nat) (w : World) : (bldF #[(0, .slice a n c), (1, .agg #[.slice v m d, .slice none 0 0])]).run Tryz.prog w = .ok (.agg #[.slice a n c, .slice v m d, .slice none 0 0, .slice none 0 0]) w := by kernel_rfl
theorem run_bldF2 (a : Option Addr) (n c : Nat) (w : World) : (bldF #[(2, .slice a n c)]).run Tryz.prog w = .ok (.agg #[.slice none 0 0, .slice none 0 0, .slice none 0 0, .slice a n c]) w := by kernel_rfl
def bsR1 (a : Array (Nat × Value)) : Sem Value := Instr.buildSlice 27 1 a
theorem bsR1_eq (a : Array (Nat × Value)) : Instr.buildSlice 27 1 a = bsR1 a := rfl
theorem run_bsR1 (s : ByteArray) (a : Option Addr) (n c : Nat) (w : World) : (bsR1 #[(0, .agg #[.string s, .slice a n c, .slice none 0 0])]).run Tryz.prog w = .ok (.slice (some ⟨w.heap.size, 0, none⟩) 1 1) (w.alloc (.cells #[.string s, .slice a n c, .slice none 0 0] 62)) := by kernel_rfl
theorem awC_src (w : World) (g : Nat) (hg : w.heap.size = g) : K.ESrc (w.alloc (.cells awC 36)) (some ⟨g, 0, none⟩) 3 3 [aw1, aw2, aw3] := by
 subst hg
 refine ⟨rfl, (fun h => by cases h), fun ad h t ht => ?_, ?_, (show (3 : Nat) ≤ 3518437208883 by decide)⟩
 ·obtain rfl := Option.some.inj h
  have h1 := heap_alloc_new w (.cells awC 36)
  have ht2 : t < 3 := ht
  generalize w.alloc (.cells awC 36) = W at h1 ⊢
  generalize w.heap.size = g at h1 ⊢
  clear h ht
  obtain rfl | rfl | rfl : t = 0 ∨ t = 1 ∨ t = 2 := by omega
  ·refine ⟨?_, ?_, ?_, ?_⟩ <;> simp [Addr.add, World.cell?, h1, awC, aw1]
  ·refine ⟨?_, ?_, ?_, ?_⟩ <;> simp [Addr.add, World.cell?, h1, awC, aw2]
  ·refine ⟨?_, ?_, ?_, ?_⟩ <;> simp [Addr.add, World.cell?, h1, awC, aw3]
 ·intro e he
  rcases List.mem_cons.1 he with rfl | he
  ·exact (show (1 : Nat) ≤ maxLen by decide)
  ·rcases List.mem_cons.1 he with rfl | he
   ·exact (show (1 : Nat) ≤ maxLen by decide)
   ·obtain rfl := List.mem_singleton.1 he
    exact (show (1 : Nat) ≤ maxLen by decide)
attribute [local go_sem ↓] ldP_eq stP_eq ldFa_eq stFa_eq bldF_eq bsE3_eq bsR1_eq bldE_eq bldP_eq bldR_eq bldD_eq K.ld28_eq K.st28_eq
attribute [local go_sem] cells_PV PC_size cells_FaV FaC_size zero_FaZ run_bldF01 run_bldF2 run_bsE3 run_bsR1 run_bldE run_bldD run_bldP1 run_bldR2 K.cells_EV K.EC_size K.zero_EC
set_option maxRecDepth 100000 in
theorem entryL_any (r n q : Int) (s : ByteArray) (w : World) : Calls Tryz.prog 11 #[.int .i64 r, .int .i64 n, .string s, .int .i64 q] w fun e w' => e = .returned (K.EV ⟨r, n, s, q⟩) ∧ Below w.heap.size w w' := by
 obtain ⟨g, hg⟩ : ∃ g, w.heap.size = g := ⟨_, rfl⟩
 obtain ⟨w1, hst, X1, B1, -⟩ := K.made w ⟨r, n, s, q⟩ g hg
 replace hst : (K.st28 (.pointer (some ⟨g, 0, none⟩)) (.agg #[.int .i64 r, .int .i64 n, .string s, .int .i64 q])).run Tryz.prog (w.alloc (.cells (K.EC K.en0) 36)) = .ok () w1 := hst
 have HX := hide X1
 have HB := hide B1
 clear X1 B1
 go_enter Tryz.func11, Tryz.ntmps11
 go_wp2_with fail
 clear hst
 refine bodyPost_ret (resE1 rfl rfl HX.out) rfl ?_
 exact ⟨rfl, HB.out⟩
def SomeD (f : Fc) : Prop := f.es = [aw1, aw2, aw3] ∧ f.an = 3 ∧ f.p.P = awP ∧ f.rs = [] ∧ f.rn = 0
set_option maxRecDepth 100000 in
theorem someL_any (w : World) : Calls Tryz.prog 18 #[] w fun e w' => FcS w w' e SomeD := by
 have b0 := below_new w (.cells (FaC (mkF fz0)) 29)
 have X0 := FaBox_new w (mkF fz0)
 obtain ⟨w0, hw0⟩ : ∃ w0, w.alloc (.cells (FaC (mkF fz0)) 29) = w0 := ⟨_, rfl⟩
 obtain ⟨G, hG⟩ : ∃ G, w.heap.size = G := ⟨_, rfl⟩
 rw [hw0] at b0 X0
 rw [hG] at X0
 have HX := hide X0
 have HB := hide b0
 have HGs : Hid (w.heap.size = G) := hG
 clear b0 X0
 go_enter Tryz.func18, Tryz.ntmps18
 go_wp2_with fail
 clear hw0 hG
 refine (entryL_any 0 1 5 ⟨#[65]⟩ _).mono ?_
 rintro e w1 ⟨rfl, b1⟩
 have HB1 := hide (HB.out.trans (b1.mono HB.out.size))
 have HX1 := hide (HX.out.below b1)
 clear b1
 go_wp2_with fail
 refine (entryL_any 0 2 2 ⟨#[66]⟩ _).mono ?_
 rintro e w2 ⟨rfl, b2⟩
 have HB2 := hide (HB1.out.trans (b2.mono HB1.out.size))
 have HX2 := hide (HX1.out.below b2)
 clear b2
 go_wp2_with fail
 refine (entryL_any 1 1 1 ⟨#[65]⟩ _).mono ?_
 rintro e w3 ⟨rfl, b3⟩
 have HB3 := hide (HB2.out.trans (b3.mono HB2.out.size))
 have HX3 := hide (HX2.out.below b3)
 clear b3
 have lb : (bsE3 #[(0, K.EV ⟨0, 1, ⟨#[65]⟩, 5⟩), (1, K.EV ⟨0, 2, ⟨#[66]⟩, 2⟩), (2, K.EV ⟨1, 1, ⟨#[65]⟩, 1⟩)]).run Tryz.prog w3 = .ok (.slice (some ⟨w3.heap.size, 0, none⟩) 3 3) (w3.alloc (.cells awC 36)) := run_bsE3 w3
 obtain ⟨g4, hg4⟩ : ∃ g, w3.heap.size = g := ⟨_, rfl⟩
 have S4 := awC_src w3 g4 hg4
 have b4 := below_new w3 (.cells awC 36)
 have z4 : (w3.alloc (.cells awC 36)).heap.size = g4 + 1 := by simp [hg4]
 obtain ⟨w4, hw4⟩ : ∃ w4, w3.alloc (.cells awC 36) = w4 := ⟨_, rfl⟩
 rw [hw4] at lb S4 b4 z4
 rw [hg4] at lb
 have V5 := vsrc_lit w4 3 #[.int .i64 1] [1] rfl (g4 + 1) 1 z4 rfl
 have b5 := below_new w4 (.cells #[.int .i64 1] 3)
 obtain ⟨w5, hw5⟩ : ∃ w5, w4.alloc (.cells #[.int .i64 1] 3) = w5 := ⟨_, rfl⟩
 rw [hw5] at V5 b5
 have HX5 := hide ((HX3.out.below b4).below b5)
 have HB5 := hide (HB3.out.trans ((b4.trans (b5.mono b4.size)).mono HB3.out.size))
 have hgg : G + 1 ≤ g4 := by have := HX3.out.lt; omega
 have HF5 : Hid (FcOk w5 ⟨some ⟨g4, 0, none⟩, 3, 3, [aw1, aw2, aw3], ⟨some ⟨g4 + 1, 0, none⟩, 1, 1, none, 0, 0, awP⟩, none, 0, 0, []⟩) := ⟨S4.below b5, ⟨V5, SSrc.empty _, (show (1 : Nat) ≤ 17592186044415 by decide)⟩, RcS.empty _⟩
 have HN5 : Hid (FcN (G + 1) ⟨some ⟨g4, 0, none⟩, 3, 3, [aw1, aw2, aw3], ⟨some ⟨g4 + 1, 0, none⟩, 1, 1, none, 0, 0, awP⟩, none, 0, 0, []⟩) := ⟨fun ad e => by cases e; exact hgg, ⟨fun ad e => by cases e; exact Nat.le_succ_of_le hgg, fun ad e => (by cases e)⟩, fun ad e => (by cases e), fun c hc => (by cases hc)⟩
 have HE := hide (give_fs (w := w) SomeD HX5.out HF5.out ⟨Nat.le_refl _, fun _ => rfl⟩ HN5.out HB5.out (by rw [HGs.out]; exact Nat.le_refl _) ⟨rfl, rfl, rfl, rfl, rfl⟩)
 have stz := run_stFa (m' := mkF ⟨some ⟨g4, 0, none⟩, 3, 3, [aw1, aw2, aw3], ⟨some ⟨g4 + 1, 0, none⟩, 1, 1, none, 0, 0, awP⟩, none, 0, 0, []⟩) HX5.out
 replace stz : (stFa (.pointer (some ⟨G, 0, none⟩)) (.agg #[.slice (some ⟨g4, 0, none⟩) 3 3, .slice (some ⟨g4 + 1, 0, none⟩) 1 1, .slice none 0 0, .slice none 0 0])).run Tryz.prog w5 = .ok () (w5.setRow G (FaC (mkF ⟨some ⟨g4, 0, none⟩, 3, 3, [aw1, aw2, aw3], ⟨some ⟨g4 + 1, 0, none⟩, 1, 1, none, 0, 0, awP⟩, none, 0, 0, []⟩))) := stz
 clear S4 b4 V5 b5 hgg
 go_wp2_with fail
 refine bodyPost_ret (res1Fa rfl rfl HE.out.1) rfl ?_
 exact HE.out.2
def BarD (f : Fc) : Prop := f.es = [] ∧ f.an = 0 ∧ f.p.P = pv0.P ∧ (∃ r, f.rs = [r] ∧ r.s = ⟨#[65]⟩ ∧ r.p.P = awQ) ∧ f.rn = 1
set_option maxRecDepth 100000 in
theorem barL_any (w : World) : Calls Tryz.prog 19 #[] w fun e w' => FcS w w' e BarD := by
 have b0 := below_new w (.cells (FaC (mkF fz0)) 29)
 have X0 := FaBox_new w (mkF fz0)
 have z0 : (w.alloc (.cells (FaC (mkF fz0)) 29)).heap.size = w.heap.size + 1 := by simp
 obtain ⟨w3, hw3⟩ : ∃ w0, w.alloc (.cells (FaC (mkF fz0)) 29) = w0 := ⟨_, rfl⟩
 obtain ⟨G, hG⟩ : ∃ G, w.heap.size = G := ⟨_, rfl⟩
 rw [hw3] at b0 X0 z0
 rw [hG] at X0 z0
 have HGs : Hid (w.heap.size = G) := hG
 have V4 := vsrc_lit w3 3 #[.int .i64 0, .int .i64 2] [0, 2] rfl (G + 1) 2 z0 rfl
 have b4 := below_new w3 (.cells #[.int .i64 0, .int .i64 2] 3)
 have z4 : (w3.alloc (.cells #[.int .i64 0, .int .i64 2] 3)).heap.size = G + 2 := by simp [z0]
 obtain ⟨w4, hw4⟩ : ∃ w4, w3.alloc (.cells #[.int .i64 0, .int .i64 2] 3) = w4 := ⟨_, rfl⟩
 rw [hw4] at V4 b4 z4
 have R5 := rcs_lit w4 62 #[.string ⟨#[65]⟩, .slice (some ⟨G + 1, 0, none⟩) 2 2, .slice none 0 0] [⟨⟨#[65]⟩, ⟨some ⟨G + 1, 0, none⟩, 2, 2, none, 0, 0, awQ⟩⟩] rfl (G + 2) 1 z4 rfl (by decide) (fun r hr => by
  obtain rfl := List.mem_singleton.1 hr
  exact ⟨⟨V4, SSrc.empty _, (show (2 : Nat) ≤ 17592186044415 by decide)⟩, (show (1 : Nat) ≤ maxLen by decide)⟩)
 have b5 := below_new w4 (.cells #[.string ⟨#[65]⟩, .slice (some ⟨G + 1, 0, none⟩) 2 2, .slice none 0 0] 62)
 have lb := run_bsR1 ⟨#[65]⟩ (some ⟨G + 1, 0, none⟩) 2 2 w4
 rw [z4] at lb
 obtain ⟨w5, hw5⟩ : ∃ w5, w4.alloc (.cells #[.string ⟨#[65]⟩, .slice (some ⟨G + 1, 0, none⟩) 2 2, .slice none 0 0] 62) = w5 := ⟨_, rfl⟩
 rw [hw5] at R5 b5 lb
 have HX5 := hide ((X0.below b4).below b5)
 have HB5 := hide (b0.trans ((b4.trans (b5.mono b4.size)).mono b0.size))
 have HF5 : Hid (FcOk w5 ⟨none, 0, 0, [], pv0, some ⟨G + 2, 0, none⟩, 1, 1, [⟨⟨#[65]⟩, ⟨some ⟨G + 1, 0, none⟩, 2, 2, none, 0, 0, awQ⟩⟩]⟩) := ⟨esrc_nil _, PSrc.zero _, R5⟩
 have HN5 : Hid (FcN (G + 1) ⟨none, 0, 0, [], pv0, some ⟨G + 2, 0, none⟩, 1, 1, [⟨⟨#[65]⟩, ⟨some ⟨G + 1, 0, none⟩, 2, 2, none, 0, 0, awQ⟩⟩]⟩) := ⟨fun ad e => (by cases e), ⟨fun ad e => (by cases e), fun ad e => (by cases e)⟩, fun ad e => (by cases e; exact Nat.le_succ _), fun c hc => by
  obtain rfl := List.mem_singleton.1 hc
  exact ⟨fun ad e => (by cases e; exact Nat.le_refl _), fun ad e => (by cases e)⟩⟩
 have HE := hide (give_fs (w := w) BarD HX5.out HF5.out ⟨Nat.le_refl _, fun e => (by cases e)⟩ HN5.out HB5.out (by rw [HGs.out]; exact Nat.le_refl _) ⟨rfl, rfl, rfl, ⟨_, rfl, rfl, rfl⟩, rfl⟩)
 have stz := run_stFa (m' := mkF ⟨none, 0, 0, [], pv0, some ⟨G + 2, 0, none⟩, 1, 1, [⟨⟨#[65]⟩, ⟨some ⟨G + 1, 0, none⟩, 2, 2, none, 0, 0, awQ⟩⟩]⟩) HX5.out
 replace stz : (stFa (.pointer (some ⟨G, 0, none⟩)) (.agg #[.slice none 0 0, .slice none 0 0, .slice none 0 0, .slice (some ⟨G + 2, 0, none⟩) 1 1])).run Tryz.prog w5 = .ok () (w5.setRow G (FaC (mkF ⟨none, 0, 0, [], pv0, some ⟨G + 2, 0, none⟩, 1, 1, [⟨⟨#[65]⟩, ⟨some ⟨G + 1, 0, none⟩, 2, 2, none, 0, 0, awQ⟩⟩]⟩))) := stz
 clear b0 X0 V4 b4 R5 b5
 go_enter Tryz.func19, Tryz.ntmps19
 go_wp2_with fail
 refine bodyPost_ret (res1Fa rfl rfl HE.out.1) rfl ?_
 exact HE.out.2
/-! ### what the join is -/
theorem awP_form : InForm awP := ⟨by decide, trivial⟩
theorem awQ_form : InForm awQ := ⟨by decide, trivial⟩
theorem z_form : InForm pv0.P := ⟨by decide, trivial⟩
theorem z_mem (r : Nat) (hr : r < 16) (n : Int) : ¬ mem (runsAt pv0.P r) n := fun h => by
 rw [mem_runs pv0.P r hr] at h
 obtain ⟨h1, -, h2 | ⟨c, hc, -⟩⟩ := h
 ·have : (pv0.P.vec.getD r 0 : Int) = 0 := by simp [pv0]
  omega
 ·cases hc
theorem awQ_full : ¬ EmptyP awQ := fun h => h 1 (by decide) 1 ((mem_runs awQ 1 (by decide) 1).2 ⟨by decide, by decide, .inl (by decide)⟩)
theorem awR_ok {r : Rc} (hs : r.s = ⟨#[65]⟩) (hp : r.p.P = awQ) : RecOk r := ⟨by rw [hs]; decide, by rw [hp]; exact ⟨awQ_form, awQ_full⟩⟩
theorem some_form {f : Fc} (h : SomeD f) : FormF f := ⟨by rw [h.1, h.2.1]; decide, by rw [h.2.2.1]; exact awP_form, by rw [h.2.2.2.1, h.2.2.2.2]; exact okR_zero _⟩
theorem bar_form {f : Fc} (h : BarD f) : FormF f := by
 obtain ⟨h1, h2, h3, ⟨r, h4, h5, h6⟩, h7⟩ := h
 refine ⟨by rw [h1, h2]; decide, by rw [h3]; exact z_form, ?_⟩
 rw [h4, h7]
 intro j hj
 obtain rfl : j = 0 := by omega
 exact ⟨awR_ok h5 h6, fun h => absurd h (by decide)⟩
structure AwJ (h : Fc) : Prop where
 es : h.es = [aw1, aw2, aw3]
 p : h.p.P = awP
 rs : ∃ r, h.rs = [r] ∧ r.s = ⟨#[65]⟩ ∧ r.p.P = awQ
 form : FormF h
theorem aw_join {f g h : Fc} {er : Int} {w : World} (hh : FcOk w h) (hf : SomeD f) (hg : BarD g) (J : JnOf 0 f g h er) : er = 0 ∧ AwJ h := by
 rcases J with ⟨h1, -⟩ | ⟨-, -, R, e, u, J⟩
 ·exact absurd ⟨some_form hf, bar_form hg⟩ h1
 have hA : K.Asc [aw1, aw2, aw3] := K.chk_asc' (by decide)
 have hu : e = 0 ∧ R = [aw1, aw2, aw3] := by
  rw [hf.1, hg.1] at u
  exact K.union_of (R := [aw1, aw2, aw3]) hA List.Pairwise.nil (chk_ce (by decide)) hA (fun x => by simp) u
 obtain ⟨rfl, rfl⟩ := hu
 rcases J with ⟨h1, -⟩ | ⟨-, rfl, h1, h2, h3, -⟩
 ·exact absurd rfl h1
 obtain ⟨g1, g2, g3, ⟨r, g4, g5, g6⟩, g7⟩ := hg
 have hr := awR_ok g5 g6
 have e3 : UnOf [] [r] [r] := ⟨⟨srt_small (show 1 < 2 by decide), fun x => by simp [plR]⟩, fun x hx => by obtain rfl := List.mem_singleton.1 hx; exact hr⟩
 rw [hf.2.2.2.1, g4] at h3
 have e4 := h3.one e3
 have hP : h.p.P = awP := by
  have e5 : CanonOf (runsAt awP) awP := canon_iff.2 awP_form
  refine h2.unique e5 fun k hk n => ?_
  show mem (runsAt f.p.P k ++ (runsAt g.p.P k ++ [])) n ↔ _
  rw [hf.2.2.1, g3, List.append_nil, mem_append]
  exact ⟨fun q => q.elim id (fun q => absurd q (z_mem k hk n)), .inl⟩
 obtain ⟨q, hq⟩ : ∃ q, h.rs = [q] := by
  have hl : (plR h.rs).length = 1 := by rw [e4]; rfl
  rw [plR_len] at hl
  match hm : h.rs, hl with
  | [q], _ => exact ⟨q, rfl⟩
 rw [hq] at e4
 have e6 : rck q = rck r := by simpa [plR, rck] using e4
 have e7 : q.s = r.s := congrArg Prod.fst e6
 have e8 : q.p.P = r.p.P := congrArg Prod.snd e6
 refine ⟨rfl, h1, hP, ⟨q, hq, by rw [e7]; exact g5, by rw [e8]; exact g6⟩, ?_, by rw [hP]; exact awP_form, ?_⟩
 ·rw [← hh.es.1, h1]; decide
 ·have := h3.ok
  rwa [hh.rs.len] at this
theorem aw_live {h : Fc} (J : AwJ h) : liveL h = [aw2] := by
 obtain ⟨r, h1, h2, h3⟩ := J.rs
 obtain ⟨s, p⟩ := r
 have h2' : s = ⟨#[65]⟩ := h2
 have h3' : p.P = awQ := h3
 subst h2'
 unfold liveL
 rw [J.es, J.p, h1]
 have e1 : [aw1, aw2, aw3].filter (pkB awP false) = [aw2, aw3] := by decide
 rw [e1]
 have f2 : covB ⟨⟨#[65]⟩, p⟩ aw2 = false := by
  show ((decide ((⟨#[65]⟩ : ByteArray).size = 0) || ((⟨#[65]⟩ : ByteArray).toList == aw2.sku.toList)) && inB p.P aw2) = false
  rw [h3']; decide +kernel
 have f3 : covB ⟨⟨#[65]⟩, p⟩ aw3 = true := by
  show ((decide ((⟨#[65]⟩ : ByteArray).size = 0) || ((⟨#[65]⟩ : ByteArray).toList == aw3.sku.toList)) && inB p.P aw3) = true
  rw [h3']; decide +kernel
 simp [freeB, f2, f3]
theorem aw_wt {h : Fc} {w : World} (hh : FcOk w h) (J : AwJ h) (s : ByteArray) : wt (ofS h.rs s) ≤ 8796093022207 := by
 obtain ⟨r, h1, -, -⟩ := J.rs
 have hr := hh.rs.ok r (by rw [h1]; exact List.mem_singleton.2 rfl)
 have h4 := hr.1.cloud.big
 have h5 := hr.1.cloud.len
 rw [h1]
 unfold ofS
 by_cases e : r.s = s
 ·rw [List.filter_cons_of_pos (by simpa using e)]
  show 1 + r.p.P.cloud.length + 0 ≤ _
  omega
 ·rw [List.filter_cons_of_neg (by simpa using e)]
  exact Nat.zero_le _
set_option maxRecDepth 100000 in
set_option maxHeartbeats 1600000 in
theorem awake_any (w : World) : Calls Tryz.prog 9 #[] w fun e w' => e = .returned (.bool true) ∧ Below w.heap.size w w' := by
 go_enter Tryz.func9, Tryz.ntmps9
 go_wp2_with fail
 refine (someL_any w).mono ?_
 rintro e w1 ⟨f, rfl, F1, R1, -, b1, D1⟩
 have HF1 := hide F1
 have HR1 := hide R1
 have HD1 := hide D1
 have HB1 := hide b1
 clear F1 R1 D1 b1
 go_wp2_with fail
 refine (barL_any _).mono ?_
 rintro e w2 ⟨g, rfl, F2, R2, -, b2, D2⟩
 have HF2 : Hid (FcOk w2 f ∧ FcOk w2 g) := ⟨HF1.out.below b2, F2⟩
 have HR2 := hide R2
 have HD2 := hide D2
 have HB2 := hide (HB1.out.trans (b2.mono HB1.out.size))
 clear F2 R2 D2 b2
 go_wp2_with fail
 refine (tJoin_any f g _ HF2.out.1 HF2.out.2 HR1.out HR2.out (by rw [HD1.out.2.2.2.2, HD2.out.2.2.2.2]; decide)).mono ?_
 rintro e w3 ⟨h, er, rfl, F3, R3, N3, b3, J3⟩
 obtain ⟨rfl, AJ⟩ := aw_join F3 HD1.out HD2.out J3
 have HB3 := hide (HB2.out.trans (b3.mono HB2.out.size))
 obtain ⟨g4, hg4⟩ : ∃ g4, w3.heap.size = g4 := ⟨_, rfl⟩
 obtain ⟨w4, hst, X4, B4, -⟩ := madeFa w3 (mkF h) g4 hg4
 have HX4 := hide X4
 have HF4 := hide (F3.below B4)
 have HAJ := hide AJ
 have HB4 := hide (HB3.out.trans (B4.mono HB3.out.size))
 have han : h.an = 3 := by rw [← F3.es.1, AJ.es]; rfl
 have hrn : h.rn = 1 := by obtain ⟨r, h1, -⟩ := AJ.rs; rw [← F3.rs.len, h1]; rfl
 obtain ⟨c0, c3⟩ := HX4.out.cs
 rw [han] at c0
 rw [hrn] at c3
 have HM : Hid (h.rn * (h.an + 1) ≤ 8796093022207) := by show h.rn * _ ≤ _; rw [han, hrn]; decide
 have lh := run_ldFa HX4.out
 replace hst : (stFa (.pointer (some ⟨g4, 0, none⟩)) (FaV (mkF h))).run Tryz.prog (w3.alloc (.cells (FaC (mkF fz0)) 29)) = .ok () w4 := hst
 clear F3 R3 N3 b3 J3 AJ X4 B4 han hrn
 go_wp2_with fail
 clear hst hg4 c0 c3 lh
 refine (tLive_any h _ HF4.out (aw_wt HF4.out HAJ.out) HM.out).mono ?_
 rintro e w5 h5
 rcases h5 with ⟨-, ao, n, c, rfl, S5, b5, -⟩ | ⟨hno, -⟩
 rotate_left
 ·exact absurd HAJ.out.form hno
 rw [aw_live HAJ.out] at S5
 obtain rfl : n = 1 := S5.1.symm
 have HS5 := hide S5
 have HB5 := hide (HB4.out.trans (b5.mono HB4.out.size))
 obtain ⟨ad, hao, A0⟩ := S5.at 0 (by decide)
 subst hao
 rw [Nat.zero_mul, K.add_zero] at A0
 replace A0 : K.EnAt w5 ad aw2 := A0
 obtain ⟨b6, o6, rfl⟩ : ∃ b o, ad = ⟨b, o, none⟩ := by
  have hsp := World.cell?_spot A0.c0
  obtain ⟨b, o, sp⟩ := ad
  have hsp2 : sp = none := hsp
  subst hsp2
  exact ⟨b, o, rfl⟩
 have HA0 := hide A0
 clear S5 b5 A0
 go_upto_region 5 with fail
 refine wp_region_held_drew (S := fun v => (K.ld28 (.pointer (some ⟨b6, o6, none⟩))).run Tryz.prog v = .ok (K.EV aw2) v) (by kernel_rfl) (K.run_ld28 (HA0.out.on (below_drew1 w5))) (fun hHeld => ?_)
 refine wTk 0 ⟨some 29, .move (.tmp 2), 38, "law.go:34", #[], none⟩ rfl ?_
 refine wTk 1 ⟨some 30, .binOp .eql 38 (.tmp 29) (.const (.int .i64 0)) 38, 4, "law.go:34", #[⟨0, .data⟩], none⟩ rfl ?_
 refine wTk 2 ⟨some 31, .move (.tmp 30), 4, "law.go:34", #[⟨1, .data⟩], none⟩ rfl ?_
 refine wTk 3 ⟨some 32, .move (.tmp 3), 22, "law.go:34", #[⟨2, .guard⟩], some (2, true)⟩ rfl ?_
 refine wTk 4 ⟨some 33, .call ⟨.builtin .len, #[.tmp 32], #[22]⟩, 3, "law.go:34", #[⟨3, .data⟩, ⟨2, .guard⟩], some (2, true)⟩ rfl ?_
 refine wTk 5 ⟨some 34, .binOp .eql 3 (.tmp 33) (.const (.int .i64 1)) 3, 4, "law.go:34", #[⟨4, .data⟩, ⟨2, .guard⟩], some (2, true)⟩ rfl ?_
 refine wTk 6 ⟨some 35, .pick (.tmp 31) (.tmp 34) (.const (.bool false)), 4, "law.go:34", #[⟨2, .data⟩, ⟨5, .data⟩], none⟩ rfl ?_
 refine wTk 7 ⟨some 36, .move (.tmp 35), 4, "law.go:34", #[⟨6, .data⟩, ⟨2, .chain⟩], none⟩ rfl ?_
 refine wTk 8 ⟨some 37, .move (.tmp 3), 22, "law.go:34", #[⟨7, .guard⟩], some (7, true)⟩ rfl ?_
 refine wTk 9 ⟨some 38, .indexAddr 22 (.tmp 37) (.const (.int .i64 0)), 0, "law.go:34", #[⟨8, .data⟩, ⟨7, .guard⟩], some (7, true)⟩ rfl ?_
 refine wTk 10 ⟨some 39, .load 36 (.tmp 38), 36, "law.go:34", #[⟨9, .data⟩, ⟨7, .guard⟩], some (7, true)⟩ rfl ?_
 refine wpAnyH_ready (rs := [11]) (by kernel_rfl) (by simp) (.cons rfl (fun K hK => ?_) .nil)
 go_simp
 go_wp2_with fail
 refine (entryL_any 0 2 2 ⟨#[66]⟩ _).mono ?_
 rintro e w7 ⟨rfl, b7⟩
 have hB7 : Below w5.heap.size w5 w7 := (below_drew1 w5).trans b7
 have HB7 := hide (HB5.out.trans (hB7.mono HB5.out.size))
 refine hK.out _ _ (Go.Proofs.YtalpnhfoaohhhaaGreat.K.run_ld28 (HA0.out.on hB7)) (fun hHeld => ?_)
 clear hK K b7 hB7
 have leq : ∀ W : World, (Op.equalIn 10000 36 (K.EV aw2) (K.EV ⟨0, 2, ⟨#[66]⟩, 2⟩)).run Tryz.prog W = .ok true W := fun W => (Go.Proofs.YtalpnhfoaohhhaaGreat.K.run_eq28 aw2 ⟨0, 2, ⟨#[66]⟩, 2⟩ W).trans (congrArg (fun b => Result.ok b W) (Go.Proofs.YtalpnhfoaohhhaaGreat.K.eqE_self aw2))
 refine wTk 12 ⟨some 41, .binOp .eql 36 (.tmp 39) (.tmp 40) 36, 4, "law.go:34", #[⟨10, .data⟩, ⟨11, .data⟩, ⟨7, .guard⟩], some (7, true)⟩ rfl ?_
 refine wTk 13 ⟨some 42, .pick (.tmp 36) (.tmp 41) (.const (.bool false)), 4, "law.go:34", #[⟨7, .data⟩, ⟨12, .data⟩], none⟩ rfl ?_
 refine wTk 14 ⟨some 0, .assign (.tmp 42), 4, "law.go:34", #[⟨13, .data⟩, ⟨11, .chain⟩, ⟨0, .phase⟩, ⟨1, .phase⟩, ⟨2, .phase⟩, ⟨3, .phase⟩, ⟨4, .phase⟩, ⟨5, .phase⟩, ⟨6, .phase⟩, ⟨7, .phase⟩, ⟨8, .phase⟩, ⟨9, .phase⟩, ⟨10, .phase⟩, ⟨11, .phase⟩, ⟨12, .phase⟩, ⟨13, .phase⟩], none⟩ rfl ?_
 refine wpAnyH_done (by kernel_rfl) ?_ _
 clear hHeld
 clear leq
 go_wp2_with fail
 go_ret
 exact ⟨rfl, HB7.out⟩
end Go.Proofs.YtalpnhfoaohhhaaGreat
namespace Go.Proofs.YtalpnhfoaohhhaaGreat
open Go.RowKit
attribute [local go_sem ↓] ldFa_eq stFa_eq
attribute [local go_sem] cells_FaV FaC_size zero_FaZ
theorem box3F (w : World) (f g h : Fc) : ∃ wk, ((w.alloc (.cells (FaC (mkF f)) 29)).alloc (.cells (FaC (mkF g)) 29)).alloc (.cells (FaC (mkF h)) 29) = wk ∧ Hid (FaBox wk w.heap.size (mkF f)) ∧ Hid (FaBox wk (w.heap.size + 1) (mkF g)) ∧ Hid (FaBox wk (w.heap.size + 2) (mkF h)) ∧ Hid (Below w.heap.size w wk) := by
 obtain ⟨w2, hw2, HX2, HY2, HB2⟩ := box2F w f g
 have b3 := below_new w2 (.cells (FaC (mkF h)) 29)
 have hs2 : w2.heap.size = w.heap.size + 2 := by rw [← hw2]; simp
 refine ⟨_, rfl, ?_, ?_, ?_, ?_⟩ <;> rw [hw2]
 ·exact HX2.out.below b3
 ·exact HY2.out.below b3
 ·have h := FaBox_new w2 (mkF h)
  rw [hs2] at h
  exact h
 ·exact HB2.out.trans (b3.mono HB2.out.size)
end Go.Proofs.YtalpnhfoaohhhaaGreat
