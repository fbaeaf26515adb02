/- BAq TLv TAw -/
import Derived.Test.YtalpnhfoaohhhaaGreatTd33
import Derived.Test.YtalpnhfoaohhhaaGreatTd30
import Derived.Deep.CutRange
import Derived.Test.YtalpnhfoaohhhaaGreatTd19
import Derived.Test.YtalpnhfoaohhhaaGreatTd21
set_option maxRecDepth 100000
namespace Go.Proofs.YtalpnhfoaohhhaaGreat
section
open Go.RowKit Go.Maps Go.Sort
attribute [local go_sem ↓] ldP_eq stP_eq ldRe_eq stRe_eq
attribute [local go_sem] cells_ReV ReC_size zero_ReC
end
section
open Go.RowKit
attribute [local go_sem ↓] ldP_eq stP_eq ldFa_eq stFa_eq
attribute [local go_sem] cells_PV PC_size cells_FaV FaC_size
def liveL (f : Fc) : List K.En := (f.es.filter (pkB f.p.P false)).filter (freeB f.rs)
def LvA (w w' : World) (x : Ending) (f : Fc) : Prop := (FormF f /\ K.GivesEE w w' x (liveL f) 0) ∨ (¬ FormF f /\ K.GivesEE w w' x [] 1)
theorem chk_filter {L : List K.En} (h : K.chk L = 0) (p : K.En -> Bool) : K.chk (L.filter p) = 0 :=
 K.chk_asc (List.Pairwise.filter p (K.chk_asc' h)) (fun e he => chk_ce h e (List.mem_filter.1 he).1)
end
section
open Go.RowKit
def FcS (w w' : World) (e : Ending) (D : Fc -> Prop) : Prop := ∃ f, e = .returned (FaV (mkF f)) /\ FcOk w' f /\ FcR f /\ FcN w.heap.size f /\ Below w.heap.size w w' /\ D f
theorem give_fs {w W : World} {g : Nat} {m0 : FacV} {f : Fc} (D : Fc -> Prop) (hX : FaBox W g m0) (hF : FcOk W f) (hr : FcR f) (hn : FcN (g + 1) f) (hb : Below w.heap.size w W) (hg : w.heap.size <= g) (hD : D f) :
  FaBox (W.setRow g (FaC (mkF f))) g (mkF f) /\ FcS w (W.setRow g (FaC (mkF f))) (.returned (FaV (mkF f))) D :=
 ⟨hX.setRow, f, rfl, hF.off2 hn (fun k hk => setRow_other _ _ _ _ (by omega)), hr, hn.mono (by omega), below_setRow hb hg, hD⟩
def aw1 : K.En := ⟨0, 1, ⟨#[65]⟩, 5⟩
def aw2 : K.En := ⟨0, 2, ⟨#[66]⟩, 2⟩
def aw3 : K.En := ⟨1, 1, ⟨#[65]⟩, 1⟩
def awP : Pst := ⟨[1], []⟩
def awQ : Pst := ⟨[0, 2], []⟩
theorem resE1 {fn : Func} {p : Tmp} {w : World} {g : Nat} {T : TypeId} {e : K.En} (h : fn.results = #[.cell p 36]) {tmps : Array Value} (hp : tmps.getD p undef = .pointer (some ⟨g, 0, none⟩)) (A : K.Box w g T e) :
  (results fn tmps).run Tryz.prog w = .ok (K.EV e) w := by
 have hl := K.run_lv28 A.at
 simp only [results, h]
 rw [Array.getD_eq_getD_getElem?] at hp
 simp [hp, asAddr, hl]
def bsE3 (a : Array (Nat × Value)) : Sem Value := Instr.buildSlice 22 3 a
theorem bsE3_eq (a : Array (Nat × Value)) : Instr.buildSlice 22 3 a = bsE3 a := rfl
def awC : Array Value := #[.int .i64 0, .int .i64 1, .string ⟨#[65]⟩, .int .i64 5, .int .i64 0, .int .i64 2, .string ⟨#[66]⟩, .int .i64 2, .int .i64 1, .int .i64 1, .string ⟨#[65]⟩, .int .i64 1]
theorem run_bsE3 (w : World) : (bsE3 #[(0, K.EV aw1), (1, K.EV aw2), (2, K.EV aw3)]).run Tryz.prog w = .ok (.slice (some ⟨w.heap.size, 0, none⟩) 3 3) (w.alloc (.cells awC 36)) := by kernel_rfl
theorem run_bldF01 (a v : Option Addr) (n c m d : Nat) (w : World) : (bldF #[(0, .slice a n c), (1, .agg #[.slice v m d, .slice none 0 0])]).run Tryz.prog w = .ok (.agg #[.slice a n c, .slice v m d, .slice none 0 0, .slice none 0 0]) w := by kernel_rfl
theorem run_bldF2 (a : Option Addr) (n c : Nat) (w : World) : (bldF #[(2, .slice a n c)]).run Tryz.prog w = .ok (.agg #[.slice none 0 0, .slice none 0 0, .slice none 0 0, .slice a n c]) w := by kernel_rfl
def bsR1 (a : Array (Nat × Value)) : Sem Value := Instr.buildSlice 27 1 a
theorem bsR1_eq (a : Array (Nat × Value)) : Instr.buildSlice 27 1 a = bsR1 a := rfl
theorem run_bsR1 (s : ByteArray) (a : Option Addr) (n c : Nat) (w : World) : (bsR1 #[(0, .agg #[.string s, .slice a n c, .slice none 0 0])]).run Tryz.prog w = .ok (.slice (some ⟨w.heap.size, 0, none⟩) 1 1) (w.alloc (.cells #[.string s, .slice a n c, .slice none 0 0] 62)) := by kernel_rfl
theorem awC_src (w : World) (g : Nat) (hg : w.heap.size = g) : K.ESrc (w.alloc (.cells awC 36)) (some ⟨g, 0, none⟩) 3 3 [aw1, aw2, aw3] := by
 subst hg
 refine ⟨rfl, (fun h => by cases h), fun ad h t ht => ?_, ?_, (show (3 : Nat) <= 3518437208883 by decide)⟩
 ·obtain rfl := Option.some.inj h
  have h1 := heap_alloc_new w (.cells awC 36)
  have ht2 : t < 3 := ht
  generalize w.alloc (.cells awC 36) = W at h1 ⊢
  generalize w.heap.size = g at h1 ⊢
  clear h ht
  obtain rfl | rfl | rfl : t = 0 ∨ t = 1 ∨ t = 2 := by omega
  ·refine ⟨?_, ?_, ?_, ?_⟩ <;> simp [Addr.add, World.cell?, h1, awC, aw1]
  ·refine ⟨?_, ?_, ?_, ?_⟩ <;> simp [Addr.add, World.cell?, h1, awC, aw2]
  ·refine ⟨?_, ?_, ?_, ?_⟩ <;> simp [Addr.add, World.cell?, h1, awC, aw3]
 ·intro e he
  rcases List.mem_cons.1 he with rfl | he
  ·exact (show (1 : Nat) <= maxLen by decide)
  ·rcases List.mem_cons.1 he with rfl | he
   ·exact (show (1 : Nat) <= maxLen by decide)
   ·obtain rfl := List.mem_singleton.1 he
    exact (show (1 : Nat) <= maxLen by decide)
attribute [local go_sem ↓] ldP_eq stP_eq ldFa_eq stFa_eq bldF_eq bsE3_eq bsR1_eq bldE_eq bldP_eq bldR_eq bldD_eq K.ld28_eq K.st28_eq
attribute [local go_sem] cells_PV PC_size cells_FaV FaC_size zero_FaZ run_bldF01 run_bldF2 run_bsE3 run_bsR1 run_bldE run_bldD run_bldP1 run_bldR2 K.cells_EV K.EC_size K.zero_EC
theorem entryL_any (r n q : Int) (s : ByteArray) (w : World) : Calls Tryz.prog 11 #[.int .i64 r, .int .i64 n, .string s, .int .i64 q] w fun e w' => e = .returned (K.EV ⟨r, n, s, q⟩) /\ Below w.heap.size w w' := by
 obtain ⟨g, hg⟩ : ∃ g, w.heap.size = g := ⟨_, rfl⟩
 obtain ⟨w1, hst, X1, B1, -⟩ := K.made w ⟨r, n, s, q⟩ g hg
 replace hst : (K.st28 (.pointer (some ⟨g, 0, none⟩)) (.agg #[.int .i64 r, .int .i64 n, .string s, .int .i64 q])).run Tryz.prog (w.alloc (.cells (K.EC K.en0) 36)) = .ok () w1 := hst
 have HX := hide X1
 have HB := hide B1
 clear X1 B1
 go_enter Tryz.func11, Tryz.ntmps11
 go_wp2_with fail
 clear hst
 refine bodyPost_ret (resE1 rfl rfl HX.out) rfl ?_
 exact ⟨rfl, HB.out⟩
def SomeD (f : Fc) : Prop := f.es = [aw1, aw2, aw3] /\ f.an = 3 /\ f.p.P = awP /\ f.rs = [] /\ f.rn = 0
theorem someL_any (w : World) : Calls Tryz.prog 18 #[] w fun e w' => FcS w w' e SomeD := by
 have b0 := below_new w (.cells (FaC (mkF fz0)) 29)
 have X0 := FaBox_new w (mkF fz0)
 obtain ⟨w0, hw0⟩ : ∃ w0, w.alloc (.cells (FaC (mkF fz0)) 29) = w0 := ⟨_, rfl⟩
 obtain ⟨G, hG⟩ : ∃ G, w.heap.size = G := ⟨_, rfl⟩
 rw [hw0] at b0 X0
 rw [hG] at X0
 have HX := hide X0
 have HB := hide b0
 have HGs : Hid (w.heap.size = G) := hG
 clear b0 X0
 go_enter Tryz.func18, Tryz.ntmps18
 go_wp2_with fail
 clear hw0 hG
 refine (entryL_any 0 1 5 ⟨#[65]⟩ _).mono ?_
 rintro e w1 ⟨rfl, b1⟩
 have HB1 := hide (HB.out.trans (b1.mono HB.out.size))
 have HX1 := hide (HX.out.below b1)
 clear b1
 go_wp2_with fail
 refine (entryL_any 0 2 2 ⟨#[66]⟩ _).mono ?_
 rintro e w2 ⟨rfl, b2⟩
 have HB2 := hide (HB1.out.trans (b2.mono HB1.out.size))
 have HX2 := hide (HX1.out.below b2)
 clear b2
 go_wp2_with fail
 refine (entryL_any 1 1 1 ⟨#[65]⟩ _).mono ?_
 rintro e w3 ⟨rfl, b3⟩
 have HB3 := hide (HB2.out.trans (b3.mono HB2.out.size))
 have HX3 := hide (HX2.out.below b3)
 clear b3
 have lb : (bsE3 #[(0, K.EV ⟨0, 1, ⟨#[65]⟩, 5⟩), (1, K.EV ⟨0, 2, ⟨#[66]⟩, 2⟩), (2, K.EV ⟨1, 1, ⟨#[65]⟩, 1⟩)]).run Tryz.prog w3 = .ok (.slice (some ⟨w3.heap.size, 0, none⟩) 3 3) (w3.alloc (.cells awC 36)) := run_bsE3 w3
 obtain ⟨g4, hg4⟩ : ∃ g, w3.heap.size = g := ⟨_, rfl⟩
 have S4 := awC_src w3 g4 hg4
 have b4 := below_new w3 (.cells awC 36)
 have z4 : (w3.alloc (.cells awC 36)).heap.size = g4 + 1 := by simp [hg4]
 obtain ⟨w4, hw4⟩ : ∃ w4, w3.alloc (.cells awC 36) = w4 := ⟨_, rfl⟩
 rw [hw4] at lb S4 b4 z4
 rw [hg4] at lb
 have V5 := vsrc_lit w4 3 #[.int .i64 1] [1] rfl (g4 + 1) 1 z4 rfl
 have b5 := below_new w4 (.cells #[.int .i64 1] 3)
 obtain ⟨w5, hw5⟩ : ∃ w5, w4.alloc (.cells #[.int .i64 1] 3) = w5 := ⟨_, rfl⟩
 rw [hw5] at V5 b5
 have HX5 := hide ((HX3.out.below b4).below b5)
 have HB5 := hide (HB3.out.trans ((b4.trans (b5.mono b4.size)).mono HB3.out.size))
 have hgg : G + 1 <= g4 := by have := HX3.out.lt; omega
 have HF5 : Hid (FcOk w5 ⟨some ⟨g4, 0, none⟩, 3, 3, [aw1, aw2, aw3], ⟨some ⟨g4 + 1, 0, none⟩, 1, 1, none, 0, 0, awP⟩, none, 0, 0, []⟩) := ⟨S4.below b5, ⟨V5, SSrc.empty _, (show (1 : Nat) <= 17592186044415 by decide)⟩, RcS.empty _⟩
 have HN5 : Hid (FcN (G + 1) ⟨some ⟨g4, 0, none⟩, 3, 3, [aw1, aw2, aw3], ⟨some ⟨g4 + 1, 0, none⟩, 1, 1, none, 0, 0, awP⟩, none, 0, 0, []⟩) := ⟨fun ad e => by cases e; exact hgg, ⟨fun ad e => by cases e; exact Nat.le_succ_of_le hgg, fun ad e => (by cases e)⟩, fun ad e => (by cases e), fun c hc => (by cases hc)⟩
 have HE := hide (give_fs (w := w) SomeD HX5.out HF5.out ⟨Nat.le_refl _, fun _ => rfl⟩ HN5.out HB5.out (by rw [HGs.out]; exact Nat.le_refl _) ⟨rfl, rfl, rfl, rfl, rfl⟩)
 have stz := run_stFa (m' := mkF ⟨some ⟨g4, 0, none⟩, 3, 3, [aw1, aw2, aw3], ⟨some ⟨g4 + 1, 0, none⟩, 1, 1, none, 0, 0, awP⟩, none, 0, 0, []⟩) HX5.out
 replace stz : (stFa (.pointer (some ⟨G, 0, none⟩)) (.agg #[.slice (some ⟨g4, 0, none⟩) 3 3, .slice (some ⟨g4 + 1, 0, none⟩) 1 1, .slice none 0 0, .slice none 0 0])).run Tryz.prog w5 = .ok () (w5.setRow G (FaC (mkF ⟨some ⟨g4, 0, none⟩, 3, 3, [aw1, aw2, aw3], ⟨some ⟨g4 + 1, 0, none⟩, 1, 1, none, 0, 0, awP⟩, none, 0, 0, []⟩))) := stz
 clear S4 b4 V5 b5 hgg
 go_wp2_with fail
 refine bodyPost_ret (res1Fa rfl rfl HE.out.1) rfl ?_
 exact HE.out.2
def BarD (f : Fc) : Prop := f.es = [] /\ f.an = 0 /\ f.p.P = pv0.P /\ (∃ r, f.rs = [r] /\ r.s = ⟨#[65]⟩ /\ r.p.P = awQ) /\ f.rn = 1
theorem barL_any (w : World) : Calls Tryz.prog 19 #[] w fun e w' => FcS w w' e BarD := by
 have b0 := below_new w (.cells (FaC (mkF fz0)) 29)
 have X0 := FaBox_new w (mkF fz0)
 have z0 : (w.alloc (.cells (FaC (mkF fz0)) 29)).heap.size = w.heap.size + 1 := by simp
 obtain ⟨w3, hw3⟩ : ∃ w0, w.alloc (.cells (FaC (mkF fz0)) 29) = w0 := ⟨_, rfl⟩
 obtain ⟨G, hG⟩ : ∃ G, w.heap.size = G := ⟨_, rfl⟩
 rw [hw3] at b0 X0 z0
 rw [hG] at X0 z0
 have HGs : Hid (w.heap.size = G) := hG
 have V4 := vsrc_lit w3 3 #[.int .i64 0, .int .i64 2] [0, 2] rfl (G + 1) 2 z0 rfl
 have b4 := below_new w3 (.cells #[.int .i64 0, .int .i64 2] 3)
 have z4 : (w3.alloc (.cells #[.int .i64 0, .int .i64 2] 3)).heap.size = G + 2 := by simp [z0]
 obtain ⟨w4, hw4⟩ : ∃ w4, w3.alloc (.cells #[.int .i64 0, .int .i64 2] 3) = w4 := ⟨_, rfl⟩
 rw [hw4] at V4 b4 z4
 have R5 := rcs_lit w4 62 #[.string ⟨#[65]⟩, .slice (some ⟨G + 1, 0, none⟩) 2 2, .slice none 0 0] [⟨⟨#[65]⟩, ⟨some ⟨G + 1, 0, none⟩, 2, 2, none, 0, 0, awQ⟩⟩] rfl (G + 2) 1 z4 rfl (by decide) (fun r hr => by
  obtain rfl := List.mem_singleton.1 hr
  exact ⟨⟨V4, SSrc.empty _, (show (2 : Nat) <= 17592186044415 by decide)⟩, (show (1 : Nat) <= maxLen by decide)⟩)
 have b5 := below_new w4 (.cells #[.string ⟨#[65]⟩, .slice (some ⟨G + 1, 0, none⟩) 2 2, .slice none 0 0] 62)
 have lb := run_bsR1 ⟨#[65]⟩ (some ⟨G + 1, 0, none⟩) 2 2 w4
 rw [z4] at lb
 obtain ⟨w5, hw5⟩ : ∃ w5, w4.alloc (.cells #[.string ⟨#[65]⟩, .slice (some ⟨G + 1, 0, none⟩) 2 2, .slice none 0 0] 62) = w5 := ⟨_, rfl⟩
 rw [hw5] at R5 b5 lb
 have HX5 := hide ((X0.below b4).below b5)
 have HB5 := hide (b0.trans ((b4.trans (b5.mono b4.size)).mono b0.size))
 have HF5 : Hid (FcOk w5 ⟨none, 0, 0, [], pv0, some ⟨G + 2, 0, none⟩, 1, 1, [⟨⟨#[65]⟩, ⟨some ⟨G + 1, 0, none⟩, 2, 2, none, 0, 0, awQ⟩⟩]⟩) := ⟨esrc_nil _, PSrc.zero _, R5⟩
 have HN5 : Hid (FcN (G + 1) ⟨none, 0, 0, [], pv0, some ⟨G + 2, 0, none⟩, 1, 1, [⟨⟨#[65]⟩, ⟨some ⟨G + 1, 0, none⟩, 2, 2, none, 0, 0, awQ⟩⟩]⟩) := ⟨fun ad e => (by cases e), ⟨fun ad e => (by cases e), fun ad e => (by cases e)⟩, fun ad e => (by cases e; exact Nat.le_succ _), fun c hc => by
  obtain rfl := List.mem_singleton.1 hc
  exact ⟨fun ad e => (by cases e; exact Nat.le_refl _), fun ad e => (by cases e)⟩⟩
 have HE := hide (give_fs (w := w) BarD HX5.out HF5.out ⟨Nat.le_refl _, fun e => (by cases e)⟩ HN5.out HB5.out (by rw [HGs.out]; exact Nat.le_refl _) ⟨rfl, rfl, rfl, ⟨_, rfl, rfl, rfl⟩, rfl⟩)
 have stz := run_stFa (m' := mkF ⟨none, 0, 0, [], pv0, some ⟨G + 2, 0, none⟩, 1, 1, [⟨⟨#[65]⟩, ⟨some ⟨G + 1, 0, none⟩, 2, 2, none, 0, 0, awQ⟩⟩]⟩) HX5.out
 replace stz : (stFa (.pointer (some ⟨G, 0, none⟩)) (.agg #[.slice none 0 0, .slice none 0 0, .slice none 0 0, .slice (some ⟨G + 2, 0, none⟩) 1 1])).run Tryz.prog w5 = .ok () (w5.setRow G (FaC (mkF ⟨none, 0, 0, [], pv0, some ⟨G + 2, 0, none⟩, 1, 1, [⟨⟨#[65]⟩, ⟨some ⟨G + 1, 0, none⟩, 2, 2, none, 0, 0, awQ⟩⟩]⟩))) := stz
 clear b0 X0 V4 b4 R5 b5
 go_enter Tryz.func19, Tryz.ntmps19
 go_wp2_with fail
 refine bodyPost_ret (res1Fa rfl rfl HE.out.1) rfl ?_
 exact HE.out.2
/-! ### what the join is -/
theorem awP_form : InForm awP := ⟨by decide, trivial⟩
theorem awQ_form : InForm awQ := ⟨by decide, trivial⟩
theorem z_form : InForm pv0.P := ⟨by decide, trivial⟩
theorem awQ_full : ¬ EmptyP awQ := fun h => h 1 (by decide) 1 ((mem_runs awQ 1 (by decide) 1).2 ⟨by decide, by decide, .inl (by decide)⟩)
theorem awR_ok {r : Rc} (hs : r.s = ⟨#[65]⟩) (hp : r.p.P = awQ) : RecOk r := ⟨by rw [hs]; decide, by rw [hp]; exact ⟨awQ_form, awQ_full⟩⟩
theorem some_form {f : Fc} (h : SomeD f) : FormF f := ⟨by rw [h.1, h.2.1]; decide, by rw [h.2.2.1]; exact awP_form, by rw [h.2.2.2.1, h.2.2.2.2]; exact okR_zero _⟩
theorem bar_form {f : Fc} (h : BarD f) : FormF f := by
 obtain ⟨h1, h2, h3, ⟨r, h4, h5, h6⟩, h7⟩ := h
 refine ⟨by rw [h1, h2]; decide, by rw [h3]; exact z_form, ?_⟩
 rw [h4, h7]
 intro j hj
 obtain rfl : j = 0 := by omega
 exact ⟨awR_ok h5 h6, fun h => absurd h (by decide)⟩
structure AwJ (h : Fc) : Prop where
 es : h.es = [aw1, aw2, aw3]
 p : h.p.P = awP
 rs : ∃ r, h.rs = [r] /\ r.s = ⟨#[65]⟩ /\ r.p.P = awQ
 form : FormF h
end
end Go.Proofs.YtalpnhfoaohhhaaGreat
