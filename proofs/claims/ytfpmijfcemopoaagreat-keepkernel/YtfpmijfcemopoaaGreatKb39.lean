/- BCs BFx -/
import Derived.Test.YtfpmijfcemopoaaGreatKb32
import Derived.Test.YtfpmijfcemopoaaGreatKb18
import Derived.Test.YtfpmijfcemopoaaGreatKb20
import Derived.Test.YtfpmijfcemopoaaGreatKb27
import Derived.Test.YtfpmijfcemopoaaGreatKb38
import Derived.Test.YtfpmijfcemopoaaGreatKb22
namespace Go.Proofs.YtfpmijfcemopoaaGreat
open Go.RowKit
variable {w w' W : World} {g : Nat}
structure Ks where
 ro : Option Addr
 rn : Nat
 rc : Nat
 qo : Option Addr
 qn : Nat
 qc : Nat
 ao : Option Addr
 an : Nat
 ac : Nat
 bo : Option Addr
 bn : Nat
 bc : Nat
 p : Pv
 o : Pv
def KsC (m : Ks) : Array Value := #[.slice m.ro m.rn m.rc, .slice m.qo m.qn m.qc, .slice m.ao m.an m.ac, .slice m.bo m.bn m.bc, .slice m.p.vo m.p.vn m.p.vc, .slice m.p.co m.p.cn m.p.cc, .slice m.o.vo m.o.vn m.o.vc, .slice m.o.co m.o.cn m.o.cc]
abbrev KsV (m : Ks) : Value := .agg (KsC m)
theorem KsC_size (m : Ks) : (KsC m).size = 8 := rfl
theorem cells_KsV (m : Ks) : (KsV m).cells = KsC m := by simp [Value.cells]
def KsBox (w : World) (g : Nat) (m : Ks) : Prop := w.heap[g]? = some (.cells (KsC m) 29 (0, 0))
theorem KsBox.lt {m : Ks} (h : KsBox w g m) : g < w.heap.size := (Array.getElem?_eq_some_iff.1 h).1
theorem KsBox.below {m : Ks} (h : KsBox w g m) (hb : Below w.heap.size w w') : KsBox w' g m := (hb.block g h.lt).trans h
theorem KsBox.r {m : Ks} (h : KsBox w g m) : w.cell? ⟨g, 0, none⟩ = some (.slice m.ro m.rn m.rc) := by unfold KsBox at h; simp [World.cell?, h, KsC]
theorem KsBox.q {m : Ks} (h : KsBox w g m) : w.cell? ⟨g, 1, none⟩ = some (.slice m.qo m.qn m.qc) := by unfold KsBox at h; simp [World.cell?, h, KsC]
theorem KsBox.a {m : Ks} (h : KsBox w g m) : w.cell? ⟨g, 2, none⟩ = some (.slice m.ao m.an m.ac) := by unfold KsBox at h; simp [World.cell?, h, KsC]
theorem KsBox.b {m : Ks} (h : KsBox w g m) : w.cell? ⟨g, 3, none⟩ = some (.slice m.bo m.bn m.bc) := by unfold KsBox at h; simp [World.cell?, h, KsC]
theorem KsBox.p {m : Ks} (h : KsBox w g m) : PAt w ⟨g, 4, none⟩ m.p := ⟨by unfold KsBox at h; simp [World.cell?, h, KsC], by rw [Addr.add_lit]; unfold KsBox at h; simp [World.cell?, h, KsC]⟩
theorem KsBox.o {m : Ks} (h : KsBox w g m) : PAt w ⟨g, 6, none⟩ m.o := ⟨by unfold KsBox at h; simp [World.cell?, h, KsC], by rw [Addr.add_lit]; unfold KsBox at h; simp [World.cell?, h, KsC]⟩
theorem KsBox_new (w : World) (m : Ks) : KsBox (w.alloc (.cells (KsC m) 29)) w.heap.size m := by unfold KsBox; rw [heap_alloc_new]
def RSm (R : List Rc) : Prop := R.length ≤ 209716 ∧ ∀ r ∈ R, r.p.P.cloud.length ≤ 1048576
structure KsS (w : World) (m : Ks) (R Q : List Rc) (A B : List K.En) : Prop where
 r : RcS w m.ro m.rn m.rc R
 q : RcS w m.qo m.qn m.qc Q
 a : K.ESrc w m.ao m.an m.ac A
 b : K.ESrc w m.bo m.bn m.bc B
 p : PSrc w m.p
 o : PSrc w m.o
 sr : RSm R
 sq : RSm Q
 sa : m.an ≤ 1048576
 sb : m.bn ≤ 1048576
theorem KsS.below {m : Ks} {R Q : List Rc} {A B : List K.En} (h : KsS w m R Q A B) (b : Below w.heap.size w w') : KsS w' m R Q A B :=
 ⟨h.r.below b, h.q.below b, h.a.below b, h.b.below b, h.p.below b, h.o.below b, h.sr, h.sq, h.sa, h.sb⟩
theorem wt_le (X : List Pv) (c : Nat) (h : ∀ p ∈ X, p.P.cloud.length ≤ c) : wt X ≤ X.length * (c + 1) := by
 induction X with
 | nil => exact Nat.zero_le _
 | cons p X ih =>
  have h1 := ih (fun q hq => h q (List.mem_cons_of_mem _ hq))
  have h2 := h p List.mem_cons_self
  simp only [wt, List.length_cons]
  rw [Nat.add_mul]
  omega
theorem RSm.wt {R : List Rc} (h : RSm R) (s : ByteArray) : wt (ofS R s) ≤ 8796093022207 := by
 have h1 := wt_le (ofS R s) 1048576 (fun p hp => by obtain ⟨r, hr, -, rfl⟩ := ofS_mem.1 hp; exact h.2 r hr)
 have h2 := ofS_len R s
 have h3 := h.1
 have h4 : (ofS R s).length * (1048576 + 1) ≤ 209716 * (1048576 + 1) := Nat.mul_le_mul_right _ (by omega)
 omega
theorem KsS.nm {m : Ks} {R Q : List Rc} {A B : List K.En} (h : KsS w m R Q A B) : m.rn * (m.an + 1) ≤ 8796093022207 := by
 have h1 := h.sr.1
 rw [h.r.len] at h1
 have h2 := h.sa
 have h3 : m.rn * (m.an + 1) ≤ 209716 * (1048576 + 1) := Nat.mul_le_mul h1 (by omega)
 omega
structure BKc (w W : World) (G : Nat) (m : Ks) : Prop where
 box : KsBox W G m
 bel : Below w.heap.size w W
theorem BKc.below {W' : World} {G : Nat} {m : Ks} (h : BKc w W G m) (b : Below W.heap.size W W') : BKc w W' G m := ⟨h.box.below b, h.bel.trans (b.mono h.bel.size)⟩
end Go.Proofs.YtfpmijfcemopoaaGreat
namespace Go.Proofs.YtfpmijfcemopoaaGreat
open Go.RowKit
attribute [local go_sem ↓] ldP_eq stP_eq ldRe_eq stRe_eq bldP_eq run_bldP2 run_bldP1 run_bldP0 bldR_eq run_bldR2 run_bldR1 bldE_eq run_bldE bldD_eq run_bldD bldSp_eq run_bldSp
attribute [local go_sem] cells_agg
def fP1 : Pst := ⟨[0, 0, 0], [⟨0, 1, 2⟩]⟩
def fP2 : Pst := ⟨[2], []⟩
def fB : ByteArray := ⟨#[66]⟩
def fA : ByteArray := ⟨#[65]⟩
def fa : ByteArray := ⟨#[97]⟩
def fE1 : K.En := ⟨0, 2, fA, 5⟩
def fE2 : K.En := ⟨0, 3, fB, 1⟩
theorem sku_fB : skuR fB = true := by decide +kernel
theorem sku_fA : skuR fA = true := by decide +kernel
theorem sku_fa : skuR fa = false := by decide +kernel
theorem mem_fP1 (r : Nat) (n : Int) : mem (runsAt fP1 r) n ↔ r = 0 ∧ 1 ≤ n ∧ n ≤ 2 := by
 have hv : vecPart (V.at' fP1.vec r) = [] := by
  have h : V.at' fP1.vec r = 0 := by
   unfold V.at'
   split
   ·have : fP1.vec.getD r 0 = 0 := by
     match r with
     | 0 => rfl
     | 1 => rfl
     | 2 => rfl
     | r + 3 => rfl
    rw [this]; rfl
   ·rfl
  rw [h]; rfl
 unfold runsAt
 rw [hv, List.nil_append]
 by_cases h : r = 0
 ·subst h
  have hc : cloudPart fP1.cloud 0 = [⟨1, 2⟩] := rfl
  rw [hc, mem_one]
  dsimp only
  omega
 ·have hc : cloudPart fP1.cloud r = [] := by
   unfold cloudPart fP1
   have : ¬ (0 : Int) = (r : Int) := by omega
   simp [this]
  rw [hc]
  exact ⟨fun h => absurd h (mem_nil n), fun h1 => absurd h1.1 h⟩
theorem mem_fP2 (r : Nat) (n : Int) : mem (runsAt fP2 r) n ↔ r = 0 ∧ 1 ≤ n ∧ n ≤ 2 := by
 have hc : cloudPart fP2.cloud r = [] := rfl
 unfold runsAt
 rw [hc, List.append_nil]
 by_cases h : r = 0
 ·subst h
  have hv : vecPart (V.at' fP2.vec 0) = [⟨1, 2⟩] := by decide
  rw [hv, mem_one]
  dsimp only
  omega
 ·have hv : vecPart (V.at' fP2.vec r) = [] := by
   have h0 : V.at' fP2.vec r = 0 := by
    unfold V.at'
    split
    ·have : fP2.vec.getD r 0 = 0 := by
      match r, h with
      | r + 1, _ => rfl
     rw [this]; rfl
    ·rfl
   rw [h0]; rfl
  rw [hv]
  exact ⟨fun h => absurd h (mem_nil n), fun h1 => absurd h1.1 h⟩
theorem full_fP1 : ¬ EmptyP fP1 := fun h => h 0 (by decide) 1 ((mem_fP1 0 1).2 ⟨rfl, by decide, by decide⟩)
theorem full_fP2 : ¬ EmptyP fP2 := fun h => h 0 (by decide) 1 ((mem_fP2 0 1).2 ⟨rfl, by decide, by decide⟩)
theorem empty_pv0 : EmptyP pv0.P := fun r _ n h => by
 have hv : vecPart (V.at' pv0.P.vec r) = [] := by
  have h : V.at' pv0.P.vec r = 0 := by
   unfold V.at'
   split
   ·rfl
   ·rfl
  rw [h]; rfl
 unfold runsAt at h
 rw [hv] at h
 exact mem_nil n h
theorem form_fP2 : InForm fP2 := ⟨by decide, trivial⟩
theorem norm_fP1 {P : Pst} (h : CanonOf (runsAt fP1) P) : P = fP2 := by
 have h2 : CanonOf (runsAt fP2) fP2 := (canon_iff.2 form_fP2 : Canon fP2)
 exact h.unique h2 (fun r _ n => by rw [mem_fP1, mem_fP2])
theorem okR_fix (p : Pv) (hp : p.P = fP2) : OkR [⟨fA, p⟩] 1 := by
 intro j hj
 obtain rfl : j = 0 := by omega
 refine ⟨⟨sku_fA, ?_⟩, fun h => absurd h (by omega)⟩
 show FormP p.P
 rw [hp]
 exact ⟨form_fP2, full_fP2⟩
theorem chk_fix : K.chk [fE1, fE2] = 0 := by decide +kernel
theorem free_fix (p : Pv) (hp : p.P = fP2) : [fE1, fE2].filter (freeB [⟨fA, p⟩]) = [fE2] := by
 have h1 : freeB [⟨fA, p⟩] fE1 = false := by
  unfold freeB
  simp only [List.any_cons, List.any_nil, Bool.or_false, Bool.not_eq_false']
  unfold covB
  rw [show p.P = fP2 from hp]
  show ((decide (fA.size = 0) || fA.toList == fE1.sku.toList) && inB fP2 fE1) = true
  decide +kernel
 have h2 : freeB [⟨fA, p⟩] fE2 = true := by
  unfold freeB
  simp only [List.any_cons, List.any_nil, Bool.or_false, Bool.not_eq_true']
  unfold covB
  rw [show p.P = fP2 from hp]
  show ((decide (fA.size = 0) || fA.toList == fE2.sku.toList) && inB fP2 fE2) = false
  decide +kernel
 rw [List.filter_cons_of_neg (by rw [h1]; decide), List.filter_cons_of_pos h2]
 rfl
theorem notOk_fix (p : Pv) : ¬ OkR [⟨fa, p⟩] 1 := fun h => by
 have := (h 0 (by decide)).1.1
 have e : ([⟨fa, p⟩] : List Rc).getD 0 rc0 = ⟨fa, p⟩ := rfl
 rw [e] at this
 rw [sku_fa] at this
 cases this
theorem psrc_lit2 (w : World) (T : TypeId) (g : Nat) (hg : w.heap.size = g) : PSrc (w.alloc (.cells #[.int .i64 2] T)) ⟨some ⟨g, 0, none⟩, 1, 1, none, 0, 0, fP2⟩ :=
 ⟨vsrc_lit w T _ [2] rfl g 1 hg rfl, SSrc.empty _, (show (1 : Nat) ≤ 17592186044415 by decide)⟩
def fp1 (g : Nat) : Pv := ⟨some ⟨g, 0, none⟩, 3, 3, some ⟨g + 1, 0, none⟩, 1, 1, fP1⟩
def fp2 (g : Nat) : Pv := ⟨some ⟨g, 0, none⟩, 1, 1, none, 0, 0, fP2⟩
theorem fix_lit1 (w : World) (g : Nat) (hg : w.heap.size = g) : ∃ wA wB wC, w.alloc (.cells #[.int .i64 0, .int .i64 0, .int .i64 0] 3) = wA ∧ wA.alloc (.cells #[.int .i64 0, .int .i64 1, .int .i64 2] 62) = wB ∧ wB.alloc (.cells #[.string ⟨#[66]⟩, .slice (some ⟨g, 0, none⟩) 3 3, .slice (some ⟨g + 1, 0, none⟩) 1 1, .string ⟨#[65]⟩, .slice none 0 0, .slice none 0 0] 39) = wC ∧ wA.heap.size = g + 1 ∧ wB.heap.size = g + 2 ∧ Below w.heap.size w wC ∧ RcS wC (some ⟨g + 2, 0, none⟩) 2 2 [⟨fB, fp1 g⟩, ⟨fA, pv0⟩] := by
 have b1 := below_new w (.cells #[.int .i64 0, .int .i64 0, .int .i64 0] 3)
 have s1 := vsrc_lit w 3 _ [0, 0, 0] rfl g 3 hg rfl
 have z1 : (w.alloc (.cells #[.int .i64 0, .int .i64 0, .int .i64 0] 3)).heap.size = g + 1 := by rw [World.size_alloc, hg]
 replace s1 : V.Src (w.alloc (.cells #[.int .i64 0, .int .i64 0, .int .i64 0] 3)) (some ⟨g, 0, none⟩) 3 3 [0, 0, 0] := s1
 obtain ⟨wA, hA⟩ : ∃ wA, w.alloc (.cells #[.int .i64 0, .int .i64 0, .int .i64 0] 3) = wA := ⟨_, rfl⟩
 rw [hA] at b1 s1 z1
 have b2 := below_new wA (.cells #[.int .i64 0, .int .i64 1, .int .i64 2] 62)
 have s2 := ssrc_one wA 62 0 1 2 (g + 1) z1
 have z2 : (wA.alloc (.cells #[.int .i64 0, .int .i64 1, .int .i64 2] 62)).heap.size = g + 2 := by rw [World.size_alloc, z1]
 obtain ⟨wB, hB⟩ : ∃ wB, wA.alloc (.cells #[.int .i64 0, .int .i64 1, .int .i64 2] 62) = wB := ⟨_, rfl⟩
 rw [hB] at b2 s2 z2
 have hp : PSrc wB (fp1 g) := ⟨s1.below b2, s2, (show (3 : Nat) ≤ 17592186044415 by decide)⟩
 have h0 : PSrc wB pv0 := PSrc.zero _
 have s3 := rcs_lit wB 39 #[.string ⟨#[66]⟩, .slice (some ⟨g, 0, none⟩) 3 3, .slice (some ⟨g + 1, 0, none⟩) 1 1, .string ⟨#[65]⟩, .slice none 0 0, .slice none 0 0] [⟨fB, fp1 g⟩, ⟨fA, pv0⟩] rfl (g + 2) 2 z2 rfl (by decide) (fun r hr => by
  rcases List.mem_cons.1 hr with rfl | hr
  ·exact ⟨hp, show fB.size ≤ maxLen by decide⟩
  ·obtain rfl := List.mem_singleton.1 hr
   exact ⟨h0, by decide⟩)
 have b3 := below_new wB (.cells #[.string ⟨#[66]⟩, .slice (some ⟨g, 0, none⟩) 3 3, .slice (some ⟨g + 1, 0, none⟩) 1 1, .string ⟨#[65]⟩, .slice none 0 0, .slice none 0 0] 39)
 have b12 := b1.trans (b2.mono b1.size)
 exact ⟨wA, wB, _, hA, hB, rfl, z1, z2, b12.trans (b3.mono b12.size), s3⟩
theorem fix_lit2 (w : World) (g : Nat) (hg : w.heap.size = g) (s : ByteArray) (hs : s.size ≤ maxLen) : ∃ wA wC, w.alloc (.cells #[.int .i64 2] 3) = wA ∧ wA.alloc (.cells #[.string s, .slice (some ⟨g, 0, none⟩) 1 1, .slice none 0 0] 39) = wC ∧ wA.heap.size = g + 1 ∧ Below w.heap.size w wC ∧ RcS wC (some ⟨g + 1, 0, none⟩) 1 1 [⟨s, fp2 g⟩] := by
 have b1 := below_new w (.cells #[.int .i64 2] 3)
 have s1 := psrc_lit2 w 3 g hg
 have z1 : (w.alloc (.cells #[.int .i64 2] 3)).heap.size = g + 1 := by rw [World.size_alloc, hg]
 obtain ⟨wA, hA⟩ : ∃ wA, w.alloc (.cells #[.int .i64 2] 3) = wA := ⟨_, rfl⟩
 rw [hA] at b1 s1 z1
 have s3 := rcs_lit wA 39 #[.string s, .slice (some ⟨g, 0, none⟩) 1 1, .slice none 0 0] [⟨s, fp2 g⟩] rfl (g + 1) 1 z1 rfl (by decide) (fun r hr => by
  obtain rfl := List.mem_singleton.1 hr
  exact ⟨s1, hs⟩)
 have b3 := below_new wA (.cells #[.string s, .slice (some ⟨g, 0, none⟩) 1 1, .slice none 0 0] 39)
 exact ⟨wA, _, hA, rfl, z1, b1.trans (b3.mono b1.size), s3⟩
theorem fix_lit3 (w : World) (g : Nat) (hg : w.heap.size = g) : ∃ wC, w.alloc (.cells #[.int .i64 0, .int .i64 2, .string ⟨#[65]⟩, .int .i64 5, .int .i64 0, .int .i64 3, .string ⟨#[66]⟩, .int .i64 1] 49) = wC ∧ Below w.heap.size w wC ∧ K.ESrc wC (some ⟨g, 0, none⟩) 2 2 [fE1, fE2] ∧ K.ESrc wC (some ⟨g, 4, none⟩) 1 1 [fE2] := by
 subst hg
 have h := K.lit_esrc w [fE1, fE2] #[.int .i64 0, .int .i64 2, .string ⟨#[65]⟩, .int .i64 5, .int .i64 0, .int .i64 3, .string ⟨#[66]⟩, .int .i64 1] rfl 49 2 rfl (by decide) (by decide)
 refine ⟨_, rfl, below_new _ _, h, rfl, (fun h => by cases h), fun ad e t ht => ?_, by decide, by decide⟩
 obtain rfl := Option.some.inj e
 obtain rfl : t = 0 := by omega
 have := h.2.2.1 _ rfl 1 (by decide)
 rw [Addr.add_lit] at this ⊢
 exact this
theorem fix_lit4 (w : World) (g : Nat) (hg : w.heap.size = g) : ∃ wC, w.alloc (.cells #[.string ⟨#[97]⟩, .slice none 0 0, .slice none 0 0] 39) = wC ∧ Below w.heap.size w wC ∧ RcS wC (some ⟨g, 0, none⟩) 1 1 [⟨fa, pv0⟩] := by
 have h0 : PSrc w pv0 := PSrc.zero _
 have s3 := rcs_lit w 39 #[.string ⟨#[97]⟩, .slice none 0 0, .slice none 0 0] [⟨fa, pv0⟩] rfl g 1 hg rfl (by decide) (fun r hr => by
  obtain rfl := List.mem_singleton.1 hr
  exact ⟨h0, by decide⟩)
 exact ⟨_, rfl, below_new _ _, s3⟩
set_option maxRecDepth 100000 in
set_option maxHeartbeats 6400000 in
theorem fixed_any (w : World) : Calls Tryz.prog 9 #[] w fun e w' => e = .returned (.bool true) ∧ Below w.heap.size w w' := by
 obtain ⟨g1, hg1⟩ : ∃ g1, w.heap.size = g1 := ⟨_, rfl⟩
 obtain ⟨wA, wB, wC, hA, hB, hC, z1, z2, b1, S1⟩ := fix_lit1 w g1 hg1
 have HB1 := hide b1
 have HS1 := hide S1
 clear b1 S1
 go_enter Tryz.func9, Tryz.ntmps9
 go_wp2_with fail
 clear hA hB hC z1 z2 hg1
 refine (sortTwo_any (some ⟨g1 + 2, 0, none⟩) 2 ⟨fB, fp1 g1⟩ ⟨fA, pv0⟩ _ HS1.out sku_fB sku_fA full_fP1 empty_pv0).mono ?_
 rintro x w2 ⟨⟨o2, n2, c2⟩, c, rfl, S2, hn2, hcs, b2, Cc⟩
 dsimp only at S2 hn2
 subst hn2
 have hcp : c.p.P = fP2 := norm_fP1 Cc
 obtain ⟨g2, hg2⟩ : ∃ g2, w2.heap.size = g2 := ⟨_, rfl⟩
 obtain ⟨wD, wE, hD, hE, z3, b3, S3⟩ := fix_lit2 w2 g2 hg2 fB (by decide)
 have HB2 := hide (HB1.out.trans (b2.mono HB1.out.size))
 have HB3 := hide (HB2.out.trans (b3.mono HB2.out.size))
 have HS2 := hide (S2.below b3)
 have HS3 := hide S3
 have HPl : Hid (plR [c] = plR [⟨fB, fp2 g2⟩]) := by
  show _ = _
  simp only [plR, List.map_cons, List.map_nil]
  rw [hcs, hcp]
  rfl
 replace hE : wD.alloc (.cells #[.string ⟨#[66]⟩, .slice (some ⟨g2, 0, none⟩) 1 1, .slice none 0 0] 39) = wE := hE
 clear S2 b2 b3 S3 Cc hcs hcp HB1 HS1
 go_wp2_with fail
 clear hD hE z3 hg2
 refine (sameRecords_any o2 (some ⟨g2 + 1, 0, none⟩) 1 1 c2 1 [c] [⟨fB, fp2 g2⟩] _ HS2.out HS3.out).mono ?_
 rintro x w3 ⟨x3, rfl, hx3, b3⟩
 obtain rfl : x3 = true := hx3.2 HPl.out
 have HB4 := hide (HB3.out.trans (b3.mono HB3.out.size))
 clear hx3 b3 HS2 HS3 HPl HB2 HB3
 obtain ⟨g3, hg3⟩ : ∃ g3, w3.heap.size = g3 := ⟨_, rfl⟩
 obtain ⟨wF, hF, b5, S5, S5t⟩ := fix_lit3 w3 g3 hg3
 obtain ⟨g4, hg4⟩ : ∃ g4, wF.heap.size = g4 := ⟨_, rfl⟩
 obtain ⟨wG, wH, hG, hH, z6, b6, S6⟩ := fix_lit2 wF g4 hg4 fA (by decide)
 replace hH : wG.alloc (.cells #[.string ⟨#[65]⟩, .slice (some ⟨g4, 0, none⟩) 1 1, .slice none 0 0] 39) = wH := hH
 have HB5 := hide (HB4.out.trans (b5.mono HB4.out.size))
 have HB6 := hide (HB5.out.trans (b6.mono HB5.out.size))
 have HS5 : Hid (K.ESrc wH (some ⟨g3, 0, none⟩) 2 2 [fE1, fE2] ∧ K.ESrc wH (some ⟨g3, 4, none⟩) 1 1 [fE2]) := ⟨S5.below b6, S5t.below b6⟩
 have HS6 := hide S6
 have HWt : Hid (RSm [⟨fA, fp2 g4⟩]) := ⟨show (1 : Nat) ≤ 209716 by decide, fun r hr => by obtain rfl := List.mem_singleton.1 hr; exact Nat.zero_le _⟩
 clear b5 S5 S5t b6 S6 HB4 HB5
 go_wp2_with fail
 clear hF hG hH z6 hg3 hg4
 refine (apply_any (some ⟨g3, 0, none⟩) (some ⟨g4 + 1, 0, none⟩) 2 2 1 1 [fE1, fE2] [⟨fA, fp2 g4⟩] _ HS5.out.1 HS6.out HWt.out.wt (by decide)).mono ?_
 rintro x w4 (⟨-, -, a4, n4, c4, rfl, S4, b4, -⟩ | ⟨hno, -⟩)
 rotate_left
 ·exact absurd ⟨chk_fix, okR_fix (fp2 g4) rfl⟩ hno
 rw [free_fix (fp2 g4) rfl] at S4
 have HS4 := hide S4
 have HSt := hide (HS5.out.2.below b4)
 have HB7 := hide (HB6.out.trans (b4.mono HB6.out.size))
 clear S4 b4 HS5 HS6 HWt HB6
 go_wp2_with fail
 refine (sameEntries_any a4 (some ⟨g3, 4, none⟩) n4 1 c4 1 [fE2] [fE2] _ HS4.out HSt.out).mono ?_
 rintro x w5 ⟨x5, rfl, hx5, b5⟩
 obtain rfl : x5 = true := hx5.2 rfl
 have HB8 := hide (HB7.out.trans (b5.mono HB7.out.size))
 clear hx5 b5 HS4 HSt HB7
 obtain ⟨g5, hg5⟩ : ∃ g5, w5.heap.size = g5 := ⟨_, rfl⟩
 obtain ⟨wI, hI, b9, S9⟩ := fix_lit4 w5 g5 hg5
 have HB9 := hide (HB8.out.trans (b9.mono HB8.out.size))
 have HS9 := hide S9
 clear b9 S9 HB8
 go_wp2_with fail
 clear hI hg5
 refine (keepCheck_any (some ⟨g5, 0, none⟩) 1 1 [⟨fa, pv0⟩] _ HS9.out).mono ?_
 rintro x w6 ⟨z, rfl, ⟨-, hO⟩ | ⟨rfl, -⟩, b6⟩
 ·exact absurd hO (notOk_fix pv0)
 have HBa := hide (HB9.out.trans (b6.mono HB9.out.size))
 clear b6 HB9 HS9
 go_wp2_with fail
 go_ret
 exact ⟨rfl, HBa.out⟩
end Go.Proofs.YtfpmijfcemopoaaGreat
