/- KeepFolds: the law. -/
import Derived.Test.YtfpmijfcemopoaaGreatTk
import Derived.Test.YtfpmijfcemopoaaGreatKb39
import Derived.Test.YtfpmijfcemopoaaGreatKf00
import Derived.Test.YtfpmijfcemopoaaGreatKf02
import Derived.Test.YtfpmijfcemopoaaGreatKf03
import Derived.Deep.CutRange
namespace Go.Proofs.YtfpmijfcemopoaaGreat
open Go.RowKit
attribute [local go_sem ↓] ldP_eq stP_eq ldRe_eq stRe_eq ldD_eq stD_eq K.ld28_eq K.st28_eq bldE_eq run_bldE
attribute [local go_sem] cells_PV PC_size cells_KsV KsC_size cells_agg
def EsI (w W : World) (ao : Option Addr) (l c b : Nat) : Prop := ∃ acc, acc.length = l ∧ K.OwnE w.heap.size w.heap.size w W ao c acc ∧ (∀ e ∈ acc, e.sku.size ≤ maxLen) ∧ l ≤ b
theorem EsI.below {w W : World} {ao : Option Addr} {l c b : Nat} (h : EsI w W ao l c b) : Below w.heap.size w W := by
 obtain ⟨acc, -, O, -⟩ := h
 exact O.below
theorem EsI.later {w W W' : World} {ao : Option Addr} {l c b b' : Nat} (h : EsI w W ao l c b) (hb : Below W.heap.size W W') (hbb : b ≤ b') : EsI w W' ao l c b' := by
 obtain ⟨acc, h1, O, h2, h3⟩ := h
 exact ⟨acc, h1, O.later hb, h2, Nat.le_trans h3 hbb⟩
theorem EsI.own {w W : World} {ao : Option Addr} {l c b : Nat} (h : EsI w W ao l c b) (q : Nat) (hq : (Value.slice ao l c).ownBlock = some q) : q < W.heap.size := by
 obtain ⟨acc, rfl, O, -, -⟩ := h
 exact (O.own.lt q hq).2
theorem rsrc_kept {W W' : World} {ad : Addr} {n c : Nat} {D : List Rn} (h : RSrc W (some ad) n c D) (hk : W'.heap[ad.block]? = W.heap[ad.block]?) : RSrc W' (some ad) n c D := by
 refine ⟨h.len, h.nil, fun bd e t ht => ?_, h.cap, h.room, h.big⟩
 obtain rfl := Option.some.inj e
 have A := h.cell _ rfl t ht
 have hc : ∀ q : Addr, q.block = ad.block → W'.cell? q = W.cell? q := fun q hq => by unfold World.cell?; rw [hq, hk]
 exact ⟨by rw [hc _ (by rw [block_add])]; exact A.1, by rw [hc _ (by rw [block_add, block_add])]; exact A.2⟩
theorem zz9_le : (⟨#[90, 90, 57]⟩ : ByteArray).size ≤ maxLen := by decide
theorem EsI.two {w W : World} {ao : Option Addr} {l c b : Nat} (h : EsI w W ao l c b) (hb : b ≤ 100000000) (d : Rn) (s : ByteArray) (hs : s.size ≤ maxLen) :
  ∃ a' c' W', (Builtin.append_ #[23, 23] 23 #[.slice ao l c, .slice (some ⟨W.heap.size, 0, none⟩) 2 2]).run Tryz.prog (W.alloc (.cells #[.int .i64 d.lo, .int .i64 d.hi, .string s, .int .i64 1, .int .i64 d.lo, .int .i64 d.hi, .string ⟨#[90, 90, 57]⟩, .int .i64 1] 49)) = .ok (.slice a' (l + 2) c') W' ∧ EsI w W' a' (l + 2) c' (b + 2) ∧ (∀ q, q < W.heap.size → (Value.slice ao l c).ownBlock ≠ some q → W'.heap[q]? = W.heap[q]? ∧ (Value.slice a' (l + 2) c').ownBlock ≠ some q) ∧ W.heap.size ≤ W'.heap.size := by
 obtain ⟨acc, h1, O, h2, h3⟩ := h
 have b1 := below_new W (.cells #[.int .i64 d.lo, .int .i64 d.hi, .string s, .int .i64 1, .int .i64 d.lo, .int .i64 d.hi, .string ⟨#[90, 90, 57]⟩, .int .i64 1] 49)
 have hm : ∀ e ∈ ([⟨d.lo, d.hi, s, 1⟩, ⟨d.lo, d.hi, ⟨#[90, 90, 57]⟩, 1⟩] : List K.En), e.sku.size ≤ maxLen := fun e he => by
  rcases List.mem_cons.1 he with rfl | he
  ·exact hs
  ·obtain rfl := List.mem_singleton.1 he
   exact zz9_le
 have hL := K.lit_esrc W [⟨d.lo, d.hi, s, 1⟩, ⟨d.lo, d.hi, ⟨#[90, 90, 57]⟩, 1⟩] #[.int .i64 d.lo, .int .i64 d.hi, .string s, .int .i64 1, .int .i64 d.lo, .int .i64 d.hi, .string ⟨#[90, 90, 57]⟩, .int .i64 1] rfl 49 2 rfl hm (by decide)
 obtain ⟨a', c', W', hr, O', hk, hat, hsz⟩ := (O.later b1).appRun _ 2 2 _ hL l (l + 2) h1 rfl (by omega)
 refine ⟨a', c', W', hr, ⟨_, by rw [List.length_append, h1]; rfl, O', fun e he => (List.mem_append.1 he).elim (h2 e) (hm e), by omega⟩, fun q hq hn => ⟨(hk q (by simp; omega) hn).trans (Below.heap_alloc W _ q hq), fun e => ?_⟩, Nat.le_trans b1.size hsz⟩
 rcases hat with h | h
 ·exact hn (by rw [← h]; exact e)
 ·rw [h] at e
  have := Option.some.inj e
  simp at this
  omega
def ApE (L : List K.En) (R : List Rc) (n : Nat) (Z : List K.En) (er : Int) : Prop := (K.chk L = 0 ∧ OkR R n ∧ Z = L.filter (freeB R) ∧ er = 0) ∨ (¬ (K.chk L = 0 ∧ OkR R n) ∧ Z = [] ∧ er = 1)
theorem ApA.detE {w w' : World} {x : Ending} {L : List K.En} {R : List Rc} {n : Nat} (h : ApA w w' x L R n) : ∃ Z er, K.GivesEE w w' x Z er ∧ ApE L R n Z er := by
 rcases h with ⟨h1, h2, h3⟩ | ⟨h1, h3⟩
 ·exact ⟨_, _, h3, .inl ⟨h1, h2, rfl, rfl⟩⟩
 ·exact ⟨_, _, h3, .inr ⟨h1, rfl, rfl⟩⟩
theorem foldApD {A : List K.En} {R F : List Rc} {n n' : Nat} {Z Z' : List K.En} {er er' : Int} (hF : FoldOf R F) (hR : OkR R n) (hR' : OkR F n') (h : ApE A R n Z er) (h' : ApE A F n' Z' er') : Z = Z' ∧ er = er' := by
 have e : A.filter (freeB F) = A.filter (freeB R) := List.filter_congr (fun x _ => fold_free hF x)
 rcases h with ⟨h1, h2, rfl, rfl⟩ | ⟨h1, rfl, rfl⟩ <;> rcases h' with ⟨k1, k2, rfl, rfl⟩ | ⟨k1, rfl, rfl⟩
 ·exact ⟨e.symm, rfl⟩
 ·exact absurd ⟨h1, hR'⟩ k1
 ·exact absurd ⟨k1, hR⟩ h1
 ·exact ⟨rfl, rfl⟩
set_option maxRecDepth 100000 in
set_option maxHeartbeats 12800000 in
theorem keepFolds_law (m : Ks) (R Q : List Rc) (A B : List K.En) (w : World) (hS : KsS w m R Q A B) :
  Calls Tryz.prog 8 #[KsV m] w fun e w' => e = .returned (.bool true) ∧ Below w.heap.size w w' := by
 have HS := hide hS
 have HX := hide (KsBox_new w m)
 have HB := hide (below_new w (.cells (KsC m) 29))
 have hanb := hS.sa
 have hbnb := hS.sb
 have hrnb : m.rn ≤ 209716 := by have := hS.sr.1; rw [hS.r.len] at this; exact this
 have HRl : Hid (R.length = m.rn) := hS.r.len
 have HWt := hide (hS.sr.wt)
 have HNM := hide hS.nm
 clear hS
 obtain ⟨wk, hwk⟩ : ∃ wk, w.alloc (.cells (KsC m) 29) = wk := ⟨_, rfl⟩
 obtain ⟨G, hG⟩ : ∃ G, w.heap.size = G := ⟨_, rfl⟩
 rw [hwk] at HX HB
 rw [hG] at HX
 go_enter Tryz.func8, Tryz.ntmps8
 go_wp2_with fail
 refine (fixed_any _).mono ?_
 rintro e w2 ⟨rfl, b2⟩
 have HK2 : Hid (BKc w w2 G m) := ⟨HX.out.below b2, HB.out.trans (b2.mono HB.out.size)⟩
 clear b2 HX HB hwk hG
 have r2 := HK2.out.box.r
 go_wp2_with fail
 clear r2
 refine (fold_any m.ro m.rn m.rc R w2 (HS.out.r.below HK2.out.bel) HWt.out).mono ?_
 rintro e w3 (⟨hO, ⟨qo, qn, qc⟩, F, rfl, S3, b3, -, hF⟩ | ⟨hO, rfl, b3⟩)
 rotate_left
 ·have HK3 := hide (HK2.out.below b3)
  have HNo := hide hO
  clear hO b3
  have r3 := HK3.out.box.r
  go_wp2_with fail
  clear r3
  refine (refChkR_any m.ro m.rn m.rc R w3 (HS.out.r.below HK3.out.bel)).mono ?_
  rintro e w4 ⟨z, rfl, ⟨rfl, hO⟩ | ⟨rfl, -⟩, b4⟩
  ·exact absurd hO HNo.out
  ·have HK4 := hide (HK3.out.below b4)
   clear b4
   go_wp2_with fail
   go_ret
   exact ⟨rfl, HK4.out.bel⟩
 rw [show HsV ⟨qo, qn, qc⟩ = Value.slice qo qn qc from rfl]
 replace S3 : RcS w3 qo qn qc F := S3
 have HO : Hid (OkR R m.rn) := hO
 have HF := hide hF
 have HFl : Hid (F.length = qn) := S3.len
 have HOF : Hid (OkR F qn) := by
  have h := fold_ok (R := R) (by rw [HRl.out]; exact hO) hF
  rw [HFl.out] at h
  exact h
 have hqn : qn ≤ 209716 := by have := fold_len hF; have := HRl.out; have := HFl.out; omega
 have HK3 := hide (HK2.out.below b3)
 have HF3 := hide S3
 clear hO hF S3 b3 HK2
 have r3 := HK3.out.box.r
 go_wp2_with fail
 clear r3
 refine (refChkR_any m.ro m.rn m.rc R w3 (HS.out.r.below HK3.out.bel)).mono ?_
 rintro e w4 ⟨z, rfl, ⟨rfl, -⟩ | ⟨rfl, hno⟩, b4⟩
 rotate_left
 ·exact absurd HO.out hno
 have HK4 := hide (HK3.out.below b4)
 have HF4 := hide (HF3.out.below b4)
 clear b4 HK3 HF3
 go_wp2_with fail
 refine (refChkR_any qo qn qc F w4 HF4.out).mono ?_
 rintro e w5 ⟨z, rfl, ⟨rfl, -⟩ | ⟨rfl, hno⟩, b5⟩
 rotate_left
 ·exact absurd HOF.out hno
 have HK5 := hide (HK4.out.below b5)
 have HF5 := hide (HF4.out.below b5)
 clear b5 HK4 HF4
 go_wp2_with fail
 refine (keepCheck_any qo qn qc F w5 HF5.out).mono ?_
 rintro e w6 ⟨z, rfl, ⟨rfl, -⟩ | ⟨rfl, hno⟩, b6⟩
 rotate_left
 ·exact absurd HOF.out hno
 have HK6 := hide (HK5.out.below b6)
 have HF6 := hide (HF5.out.below b6)
 clear b6 HK5 HF5
 go_wp2_with fail
 go_loopw [5] (fun i wr => ∃ k : Nat, 1 ≤ k ∧ k ≤ qn + 1 ∧ i = .int .i64 (k : Int) ∧ Hid (Below w6.heap.size w6 wr)) (fun i _ => qn + 1 - (intOf i).toNat)
 case atStart => exact ⟨1, Nat.le_refl _, by omega, rfl, Below.refl _ _⟩
 case round =>
  obtain ⟨k, hk1, hk, rfl, HI⟩ := hrel
  rename World => w0
  by_cases hlt : k < qn
  ·have hlti : (k : Int) < (qn : Int) := by omega
   obtain ⟨j, hj⟩ : ∃ j, j + 1 = k := ⟨k - 1, by omega⟩
   have hji : (j : Int) < (qn : Int) := by omega
   have hwj : IntKind.i64.wrap ((k : Int) - 1) = (j : Int) := by rw [IntKind.wrap_i64]; omega
   have HFr := hide (HF6.out.below HI.out)
   obtain ⟨fd, hfo, A0⟩ := HFr.out.at k hlt
   obtain ⟨fd', hfo', B0⟩ := HFr.out.at j (by omega)
   subst hfo
   obtain rfl := Option.some.inj hfo'
   obtain ⟨b1, o1, rfl⟩ := HFr.out.spot (by omega)
   obtain ⟨x, Hx⟩ : ∃ x, Hid (F.getD k rc0 = x) := ⟨_, rfl⟩
   obtain ⟨y, Hy⟩ : ∃ y, Hid (F.getD j rc0 = y) := ⟨_, rfl⟩
   rw [Hx.out] at A0
   rw [Hy.out] at B0
   rw [Addr.add_lit] at A0 B0
   have HA0 := hide A0
   have HB0 := hide B0
   have hne : (x.s.toList == y.s.toList) = false := by
    cases h : x.s.toList == y.s.toList
    ·rfl
    ·have e1 := sku_eq h
     have hjl : j < F.length := by rw [HFl.out]; omega
     have hkl : k < F.length := by rw [HFl.out]; exact hlt
     have h1 := List.pairwise_iff_getElem.1 HF.out.1 j k hjl hkl (by omega)
     have e2 : F[j] = y := by rw [← Hy.out]; simp [List.getD, List.getElem?_eq_getElem hjl]
     have e3 : F[k] = x := by rw [← Hx.out]; simp [List.getD, List.getElem?_eq_getElem hkl]
     rw [e2, e3] at h1
     exact absurd e1.symm (cmpS_ne h1)
   have HSt : Hid (∀ W, Below w0.heap.size w0 W → W.cell? ⟨b1, o1 + k * 3, none⟩ = some (.string x.s) ∧ W.cell? ⟨b1, o1 + j * 3, none⟩ = some (.string y.s)) := fun W hW => ⟨(HA0.out.on hW).flat.1, (HB0.out.on hW).flat.1⟩
   have Hlt := hide hlt
   clear A0 B0 hfo' hlt
   go_upto_region 11 with fail
   refine wp_region_held_drew (S := fun W => W.cell? ⟨b1, o1 + k * 3, none⟩ = some (.string x.s) ∧ W.cell? ⟨b1, o1 + j * 3, none⟩ = some (.string y.s)) (by kernel_rfl) (HSt.out _ (below_drew1 w0)) (fun hHeld => ?_)
   refine wTk 0 ⟨some 49, .move (.tmp 3), 22, "law.go:176", #[], none⟩ rfl ?_
   refine wTk 1 ⟨some 50, .move (.tmp 5), 3, "law.go:176", #[], none⟩ rfl ?_
   refine wTk 2 ⟨some 51, .indexAddr 22 (.tmp 49) (.tmp 50), 0, "law.go:176", #[⟨0, .data⟩, ⟨1, .data⟩], none⟩ rfl ?_
   refine wTk 3 ⟨some 52, .fieldAddr 39 (.tmp 51) 0, 0, "law.go:176", #[⟨2, .data⟩], none⟩ rfl ?_
   refine wTk 4 ⟨some 53, .load 9 (.tmp 52), 9, "law.go:176", #[⟨3, .data⟩], none⟩ rfl ?_
   refine wTk 5 ⟨some 54, .move (.tmp 3), 22, "law.go:176", #[], none⟩ rfl ?_
   refine wTk 6 ⟨some 55, .move (.tmp 5), 3, "law.go:176", #[], none⟩ rfl ?_
   refine wTk 7 ⟨some 56, .binOp .sub 3 (.tmp 55) (.const (.int .i64 1)) 3, 3, "law.go:176", #[⟨6, .data⟩], none⟩ rfl ?_
   refine wTk 8 ⟨some 57, .indexAddr 22 (.tmp 54) (.tmp 56), 0, "law.go:176", #[⟨5, .data⟩, ⟨7, .data⟩], none⟩ rfl ?_
   refine wTk 9 ⟨some 58, .fieldAddr 39 (.tmp 57) 0, 0, "law.go:176", #[⟨8, .data⟩], none⟩ rfl ?_
   refine wTk 10 ⟨some 59, .load 9 (.tmp 58), 9, "law.go:176", #[⟨9, .data⟩], none⟩ rfl ?_
   refine wTk 11 ⟨some 60, .binOp .eql 9 (.tmp 53) (.tmp 59) 9, 4, "law.go:176", #[⟨4, .data⟩, ⟨10, .data⟩], none⟩ rfl ?_
   refine wpAnyH_done (by kernel_rfl) ?_ _
   clear hHeld
   have HNx : Hid (Below w6.heap.size w6 w0.drew) := HI.out.trans ((below_drew1 w0).mono HI.out.size)
   go_wp2_with fail
   go_roundw
   case rel => exact ⟨k + 1, by omega, by have := Hlt.out; omega, by simp, HNx⟩
   case measure => simp [intOf]; have := Hlt.out; omega
  ·have hlti : ¬ (k : Int) < (qn : Int) := by omega
   have HK0 := hide (HK6.out.below HI.out)
   have HF0 := hide (HF6.out.below HI.out)
   clear HI hlt hk hk1
   have HSt : Hid (∀ W, Below w0.heap.size w0 W → W.cell? ⟨G, 2, none⟩ = some (.slice m.ao m.an m.ac) ∧ W.cell? ⟨G, 3, none⟩ = some (.slice m.bo m.bn m.bc)) := fun W hW => ⟨(HK0.out.box.below hW).a, (HK0.out.box.below hW).b⟩
   have HAB : Hid (∀ W, Below w0.heap.size w0 W → K.ESrc W m.ao m.an m.ac A ∧ K.ESrc W m.bo m.bn m.bc B) := fun W hW => ⟨(HS.out.a.below HK0.out.bel).below hW, (HS.out.b.below HK0.out.bel).below hW⟩
   have O0 := K.OwnE.empty (below_drew1 w0) (show w0.heap.size ≤ w0.drew.heap.size from Nat.le_refl _) (Nat.le_refl w0.heap.size)
   obtain ⟨a1, c1, w1, h1, O1, -⟩ := O0.appRun m.ao m.an m.ac A (HAB.out _ O0.below).1 0 m.an rfl (Nat.zero_add _) (by omega)
   obtain ⟨a2, c2, w2', h2, O2, -⟩ := O1.appRun m.bo m.bn m.bc B (HAB.out _ O1.below).2 m.an (m.an + m.bn) (by rw [List.nil_append]; exact HS.out.a.1) rfl (by omega)
   have HA1 : Hid ((Builtin.append_ #[23, 23] 23 #[.slice (some ⟨w0.heap.size, 0, none⟩) 0 0, .slice m.ao m.an m.ac]).run Tryz.prog (w0.drew.alloc (.cells #[] 49)) = .ok (.slice a1 m.an c1) w1) := h1
   have HA2 : Hid ((Builtin.append_ #[23, 23] 23 #[.slice a1 m.an c1, .slice m.bo m.bn m.bc]).run Tryz.prog w1 = .ok (.slice a2 (m.an + m.bn) c2) w2') := h2
   have HBa : Hid (Below w0.heap.size w0 (w0.drew.alloc (.cells #[] 49)) ∧ Below w0.heap.size w0 w1 ∧ Below w0.heap.size w0 w2') := ⟨O0.below, O1.below, O2.below⟩
   have HE2 : Hid (EsI w0 w2' a2 (m.an + m.bn) c2 2097152) := ⟨_, by rw [List.length_append, List.nil_append, HS.out.a.1, HS.out.b.1], O2, fun e he => by
    rw [List.nil_append] at he
    exact (List.mem_append.1 he).elim (HS.out.a.2.2.2.1 e) (HS.out.b.2.2.2.1 e), by omega⟩
   clear O0 O1 O2 h1 h2
   go_upto_region 13 with fail
   refine wp_region_held_drew (S := fun W => W.cell? ⟨G, 2, none⟩ = some (.slice m.ao m.an m.ac) ∧ W.cell? ⟨G, 3, none⟩ = some (.slice m.bo m.bn m.bc)) (by kernel_rfl) (HSt.out _ (below_drew1 w0)) (fun hHeld => ?_)
   refine wTk 1 ⟨some 62, .fieldAddr 29 (.tmp 1) 2, 0, "law.go:180", #[], none⟩ rfl ?_
   refine wTk 2 ⟨some 63, .load 23 (.tmp 62), 23, "law.go:180", #[⟨1, .data⟩], none⟩ rfl ?_
   refine wTk 4 ⟨some 65, .fieldAddr 29 (.tmp 1) 3, 0, "law.go:180", #[], none⟩ rfl ?_
   refine wTk 5 ⟨some 66, .load 23 (.tmp 65), 23, "law.go:180", #[⟨4, .data⟩], none⟩ rfl ?_
   refine wpAnyH_ready (rs := [0]) (by kernel_rfl) (by simp) (.cons rfl (fun K hK => ?_) .nil)
   go_simp
   refine hK.out _ _ (HSt.out _ HBa.out.1) (fun hHeld => ?_)
   clear hK K
   refine wpAnyH_ready (rs := [3]) (by kernel_rfl) (by simp) (.cons rfl (fun K hK => ?_) .nil)
   refine step_appM (by rfl) (.tmp 61) (.tmp 63) (by rfl) (by rfl) (by rfl) HA1.out ?_
   refine hK.out _ _ (HSt.out _ HBa.out.2.1) (fun hHeld => ?_)
   clear hK K
   refine wpAnyH_ready (rs := [6]) (by kernel_rfl) (by simp) (.cons rfl (fun K hK => ?_) .nil)
   refine step_appM (by rfl) (.tmp 64) (.tmp 66) (by rfl) (by rfl) (by rfl) HA2.out ?_
   refine hK.out _ _ (HSt.out _ HBa.out.2.2) (fun hHeld => ?_)
   clear hK K
   refine wTk 7 ⟨some 6, .assign (.tmp 67), 23, "law.go:180", #[⟨6, .data⟩, ⟨6, .chain⟩, ⟨0, .phase⟩, ⟨1, .phase⟩, ⟨2, .phase⟩, ⟨3, .phase⟩, ⟨4, .phase⟩, ⟨5, .phase⟩, ⟨6, .phase⟩], none⟩ rfl ?_
   refine wpAnyH_done (by kernel_rfl) ?_ _
   clear hHeld
   go_wp2_with fail
   go_loopw [6, 7] (fun v i wq => ∃ (k : Nat) (ap : Option Addr) (l c : Nat), k ≤ m.rn ∧ v = .slice ap l c ∧ i = .int .i64 (k : Int) ∧ Hid (EsI w0 wq ap l c (2097152 + 24 * k))) (fun _ i _ => m.rn - (intOf i).toNat)
   case atStart => exact ⟨0, a2, _, c2, Nat.zero_le _, rfl, rfl, HE2⟩
   case round =>
    obtain ⟨k, ap, l, c, hk, rfl, rfl, HI⟩ := hrel
    rename World => wq
    have HKq := hide (HK0.out.below HI.out.below)
    have rq := HKq.out.box.r
    by_cases hlt : k < m.rn
    ·have hlti : (k : Int) < (m.rn : Int) := by omega
     have HRq := hide (HS.out.r.below HKq.out.bel)
     obtain ⟨rd, hro, A0⟩ := HRq.out.at k hlt
     have hOk := HRq.out.okAt k hlt
     obtain ⟨rr, Hr⟩ : ∃ rr, Hid (R.getD k rc0 = rr) := ⟨_, rfl⟩
     rw [Hr.out] at A0 hOk
     obtain ⟨b1, o1, rfl⟩ : ∃ b1 o1, rd = ⟨b1, o1, none⟩ := by
      have h := HRq.out
      rw [hro] at h
      exact h.spot (by omega)
     rw [Addr.add_lit] at A0
     rw [hro] at rq
     have HA0 := hide A0
     have Hro := hide hro
     have HOk := hide hOk
     have Hlt := hide hlt
     have lp := run_ldP A0.flat.2
     clear A0 hOk hlt hro
     go_wp2_with fail
     clear rq lp
     refine (dots12_any rr.p _ HOk.out.1).mono ?_
     rintro e wd ⟨dd, dn, dc, D, bb, rfl, Sd, hdn, bd, nd⟩
     have HSep : Hid (∀ ad, dd = some ad → (Value.slice ap l c).ownBlock ≠ some ad.block) := fun ad h e => by
      have h1 := HI.out.own _ e
      have h2 := nd ad h
      omega
     have HId := hide (HI.out.later bd (Nat.le_refl _))
     have HSd := hide Sd
     have Hdn := hide hdn
     have hdb : dn ≤ 12 := hdn
     clear Sd hdn bd nd
     go_wp2_with fail
     go_loopw [6, 10] (fun v i wi => ∃ (t : Nat) (ap : Option Addr) (l c : Nat), t ≤ dn ∧ v = .slice ap l c ∧ i = .int .i64 (t : Int) ∧ Hid (EsI w0 wi ap l c (2097152 + 24 * k + 2 * t) ∧ RSrc wi dd dn dc D ∧ ∀ ad, dd = some ad → (Value.slice ap l c).ownBlock ≠ some ad.block)) (fun _ i _ => dn - (intOf i).toNat)
     case atStart => exact ⟨0, ap, l, c, Nat.zero_le _, rfl, rfl, HId.out, HSd.out, HSep.out⟩
     case round =>
      obtain ⟨t, ap, l, c, ht, rfl, rfl, HJ⟩ := hrel
      rename World => wi
      by_cases htl : t < dn
      ·have htli : (t : Int) < (dn : Int) := by omega
       obtain ⟨ad, hdo⟩ : ∃ ad, dd = some ad := by
        cases dd with
        | none => have := HSd.out.nil rfl; omega
        | some ad => exact ⟨ad, rfl⟩
       subst hdo
       obtain ⟨d, Hd⟩ : ∃ d, Hid (D.getD t rn0 = d) := ⟨_, rfl⟩
       have hsep := HJ.out.2.2 ad rfl
       have hadl : ad.block < wi.heap.size := by
        have h := World.block_lt_of_cell? _ _ (HJ.out.2.1.cell ad rfl t htl).1
        rw [block_add] at h
        exact h
       obtain ⟨a', c', w', hr, hE, hkp, hsz⟩ := (HJ.out.1.later (below_drew1 wi) (Nat.le_refl _)).two (by omega) d rr.s HOk.out.2
       obtain ⟨hk1, hk2⟩ := hkp ad.block hadl hsep
       have HAA : Hid ((Builtin.append_ #[23, 23] 23 #[.slice ap l c, .slice (some ⟨wi.heap.size, 0, none⟩) 2 2]).run Tryz.prog (wi.drew.alloc (.cells #[.int .i64 d.lo, .int .i64 d.hi, .string rr.s, .int .i64 1, .int .i64 d.lo, .int .i64 d.hi, .string ⟨#[90, 90, 57]⟩, .int .i64 1] 49)) = .ok (.slice a' (l + 2) c') w') := hr
       have HNx : Hid (EsI w0 w' a' (l + 2) c' (2097152 + 24 * k + 2 * (t + 1)) ∧ RSrc w' (some ad) dn dc D ∧ ∀ bd, some ad = some bd → (Value.slice a' (l + 2) c').ownBlock ≠ some bd.block) := ⟨(show 2097152 + 24 * k + 2 * t + 2 = 2097152 + 24 * k + 2 * (t + 1) by omega) ▸ hE, rsrc_kept HJ.out.2.1 hk1, fun bd e => by obtain rfl := Option.some.inj e; exact hk2⟩
       have HSu : Hid (∀ W, Below w0.heap.size w0 W → W.heap[ad.block]? = wi.heap[ad.block]? → W.cell? ⟨G, 0, none⟩ = some (.slice (some ⟨b1, o1, none⟩) m.rn m.rc) ∧ W.cell? ⟨b1, o1 + k * 3, none⟩ = some (.string rr.s) ∧ (ldD (.pointer (some (ad.add (t * 2))))).run Tryz.prog W = .ok (.agg #[.int .i64 d.lo, .int .i64 d.hi]) W) := fun W hW hk => by
        refine ⟨?_, ?_, ?_⟩
        ·rw [← Hro.out]; exact (HK0.out.box.below hW).r
        ·have h := (HS.out.r.below HK0.out.bel).below hW
         have h2 := h.at_ _ Hro.out k Hlt.out
         rw [Hr.out, Addr.add_lit] at h2
         exact h2.flat.1
        ·have h := (rsrc_kept HJ.out.2.1 hk).cell ad rfl t htl
         rw [Hd.out] at h
         exact run_ldD h
       have Hz : Hid (Below w0.heap.size w0 wi.drew ∧ Below w0.heap.size w0 (wi.drew.alloc (.cells #[.int .i64 d.lo, .int .i64 d.hi, .string rr.s, .int .i64 1, .int .i64 d.lo, .int .i64 d.hi, .string ⟨#[90, 90, 57]⟩, .int .i64 1] 49)) ∧ (wi.drew.alloc (.cells #[.int .i64 d.lo, .int .i64 d.hi, .string rr.s, .int .i64 1, .int .i64 d.lo, .int .i64 d.hi, .string ⟨#[90, 90, 57]⟩, .int .i64 1] 49)).heap[ad.block]? = wi.heap[ad.block]? ∧ Below w0.heap.size w0 w' ∧ w'.heap[ad.block]? = wi.heap[ad.block]?) := by
        have b0 : Below w0.heap.size w0 wi.drew := (HJ.out.1.later (below_drew1 wi) (Nat.le_refl _)).below
        exact ⟨b0, b0.trans ((below_new wi.drew _).mono b0.size), Below.heap_alloc wi.drew _ _ hadl, hE.below, hk1⟩
       have Htl := hide htl
       clear hr hE hkp hk1 hk2 hsep hadl htl ht
       go_upto_region 21 with fail
       refine wp_region_held_drew (S := fun W => W.cell? ⟨G, 0, none⟩ = some (.slice (some ⟨b1, o1, none⟩) m.rn m.rc) ∧ W.cell? ⟨b1, o1 + k * 3, none⟩ = some (.string rr.s) ∧ (ldD (.pointer (some (ad.add (t * 2))))).run Tryz.prog W = .ok (.agg #[.int .i64 d.lo, .int .i64 d.hi]) W) (by kernel_rfl) (HSu.out _ Hz.out.1 rfl) (fun hHeld => ?_)
       refine wTk 0 ⟨some 91, .move (.tmp 6), 23, "law.go:184", #[], none⟩ rfl ?_
       refine wTk 1 ⟨some 92, .move (.tmp 8), 58, "law.go:184", #[], none⟩ rfl ?_
       refine wTk 2 ⟨some 93, .move (.tmp 10), 3, "law.go:184", #[], none⟩ rfl ?_
       refine wTk 3 ⟨some 94, .indexAddr 58 (.tmp 92) (.tmp 93), 0, "law.go:184", #[⟨1, .data⟩, ⟨2, .data⟩], none⟩ rfl ?_
       refine wTk 4 ⟨some 95, .load 47 (.tmp 94), 47, "law.go:184", #[⟨3, .data⟩], none⟩ rfl ?_
       refine wTk 5 ⟨some 96, .fieldAddr 29 (.tmp 1) 0, 0, "law.go:184", #[], none⟩ rfl ?_
       refine wTk 6 ⟨some 97, .load 22 (.tmp 96), 22, "law.go:184", #[⟨5, .data⟩], none⟩ rfl ?_
       refine wTk 7 ⟨some 98, .move (.tmp 7), 3, "law.go:184", #[], none⟩ rfl ?_
       refine wTk 8 ⟨some 99, .indexAddr 22 (.tmp 97) (.tmp 98), 0, "law.go:184", #[⟨6, .data⟩, ⟨7, .data⟩], none⟩ rfl ?_
       refine wTk 9 ⟨some 100, .fieldAddr 39 (.tmp 99) 0, 0, "law.go:184", #[⟨8, .data⟩], none⟩ rfl ?_
       refine wTk 10 ⟨some 101, .load 9 (.tmp 100), 9, "law.go:184", #[⟨9, .data⟩], none⟩ rfl ?_
       refine wTk 11 ⟨some 102, .build 49 #[(0, .tmp 95), (1, .tmp 101), (2, .const (.int .i64 1))], 49, "law.go:184", #[⟨4, .data⟩, ⟨10, .data⟩], none⟩ rfl ?_
       refine wTk 12 ⟨some 103, .move (.tmp 8), 58, "law.go:184", #[], none⟩ rfl ?_
       refine wTk 13 ⟨some 104, .move (.tmp 10), 3, "law.go:184", #[], none⟩ rfl ?_
       refine wTk 14 ⟨some 105, .indexAddr 58 (.tmp 103) (.tmp 104), 0, "law.go:184", #[⟨12, .data⟩, ⟨13, .data⟩], none⟩ rfl ?_
       refine wTk 15 ⟨some 106, .load 47 (.tmp 105), 47, "law.go:184", #[⟨14, .data⟩], none⟩ rfl ?_
       refine wTk 16 ⟨some 107, .build 49 #[(0, .tmp 106), (1, .const (.string ⟨#[90, 90, 57]⟩)), (2, .const (.int .i64 1))], 49, "law.go:184", #[⟨15, .data⟩], none⟩ rfl ?_
       refine wpAnyH_ready (rs := [17]) (by kernel_rfl) (by simp) (.cons rfl (fun K hK => ?_) .nil)
       go_simp
       refine hK.out _ _ (HSu.out _ Hz.out.2.1 Hz.out.2.2.1) (fun hHeld => ?_)
       clear hK K
       refine wpAnyH_ready (rs := [18]) (by kernel_rfl) (by simp) (.cons rfl (fun K hK => ?_) .nil)
       refine step_appM (by rfl) (.tmp 91) (.tmp 108) (by rfl) (by rfl) (by rfl) HAA.out ?_
       refine hK.out _ _ (HSu.out _ Hz.out.2.2.2.1 Hz.out.2.2.2.2) (fun hHeld => ?_)
       clear hK K
       refine wTk 19 ⟨some 6, .assign (.tmp 109), 23, "law.go:184", #[⟨18, .data⟩, ⟨18, .chain⟩, ⟨0, .phase⟩, ⟨1, .phase⟩, ⟨2, .phase⟩, ⟨3, .phase⟩, ⟨4, .phase⟩, ⟨5, .phase⟩, ⟨6, .phase⟩, ⟨7, .phase⟩, ⟨8, .phase⟩, ⟨9, .phase⟩, ⟨10, .phase⟩, ⟨11, .phase⟩, ⟨12, .phase⟩, ⟨13, .phase⟩, ⟨14, .phase⟩, ⟨15, .phase⟩, ⟨16, .phase⟩, ⟨17, .phase⟩, ⟨18, .phase⟩], none⟩ rfl ?_
       refine wpAnyH_done (by kernel_rfl) ?_ _
       clear hHeld
       go_wp2_with fail
       go_roundw
       case rel => exact ⟨t + 1, a', l + 2, c', Htl.out, rfl, by simp, HNx⟩
       case measure => simp [intOf]; have := Htl.out; omega
      ·have htli : ¬ (t : Int) < (dn : Int) := by omega
       have HNx : Hid (EsI w0 wi ap l c (2097152 + 24 * (k + 1))) := HJ.out.1.later (Below.refl _ _) (by have := Hdn.out; omega)
       go_wp2_with fail
       go_roundw
       case rel => exact ⟨k + 1, ap, l, c, Hlt.out, rfl, by simp, HNx⟩
       case measure => simp [intOf]; have := Hlt.out; omega
    ·have hlti : ¬ (k : Int) < (m.rn : Int) := by omega
     obtain ⟨acc, hal, O, hsk, hlb⟩ := HI.out
     have hES := (O.src hsk (by omega)).1
     rw [hal] at hES
     have HES := hide hES
     have HFq := hide (HF0.out.below HI.out.below)
     have hlb2 : l ≤ 10000000 := by omega
     clear O hal hsk hES hlt hk
     go_wp2_with fail
     clear rq hlti
     go_loopw [11] (fun i wp => ∃ k : Nat, k ≤ l ∧ i = .int .i64 (k : Int) ∧ Hid (Below wq.heap.size wq wp)) (fun i _ => l - (intOf i).toNat)
     case atStart => exact ⟨0, Nat.zero_le _, rfl, Below.refl _ _⟩
     case round =>
      obtain ⟨k, hk, rfl, HJ⟩ := hrel
      rename World => wp
      have HKp := hide (HKq.out.below HJ.out)
      by_cases hlt : k < l
      ·have hlti : (k : Int) < (l : Int) := by omega
       obtain ⟨ad, hao, A0⟩ := (HES.out.below HJ.out).at k hlt
       subst hao
       obtain ⟨x, Hx⟩ : ∃ x, Hid (acc.getD k K.en0 = x) := ⟨_, rfl⟩
       rw [Hx.out] at A0
       have HA0 := hide A0
       have Hlt := hide hlt
       have l0 := K.run_ld28 A0
       clear A0 hlt hk
       go_wp2_with fail
       clear l0
       refine (keepBars_any qo qn qc F x _ (HFq.out.below HJ.out)).mono ?_
       rintro e u1 ⟨rfl, b1⟩
       have HU1 : Hid (Below wp.heap.size wp u1) := b1
       have hb := fold_bars HF.out x
       have ho := fold_once HF.out x
       clear b1
       obtain ⟨p, Hp⟩ : ∃ p : Nat, Hid (R.countP (fun r => covB r x) = p) := ⟨_, rfl⟩
       rw [Hp.out] at hb
       have HSv : Hid (∀ W, Below u1.heap.size u1 W → W.cell? ⟨G, 0, none⟩ = some (.slice m.ro m.rn m.rc) ∧ (K.ld28 (.pointer (some (ad.add (k * 4))))).run Tryz.prog W = .ok (K.EV x) W) := fun W hW => ⟨((HKp.out.box.below HU1.out).below hW).r, K.run_ld28 ((HA0.out.on HU1.out).on hW)⟩
       by_cases hp0 : 0 < p
       ·have hq : (F.countP (fun r => covB r x) : Int) = 1 := by
         rw [decide_eq_true (show (0 : Int) < (p : Int) by omega)] at hb
         simpa using hb
        rw [hq]
        clear hb ho hq
        go_upto_region 26 with fail
        refine wp_region_held_drew (S := fun W => W.cell? ⟨G, 0, none⟩ = some (.slice m.ro m.rn m.rc) ∧ (K.ld28 (.pointer (some (ad.add (k * 4))))).run Tryz.prog W = .ok (K.EV x) W) (by kernel_rfl) (HSv.out _ (below_drew1 u1)) (fun hHeld => ?_)
        refine wTk 0 ⟨some 122, .move (.tmp 12), 3, "law.go:189", #[], none⟩ rfl ?_
        refine wTk 1 ⟨some 123, .binOp .gtr 3 (.tmp 122) (.const (.int .i64 1)) 3, 4, "law.go:189", #[⟨0, .data⟩], none⟩ rfl ?_
        refine wTk 2 ⟨some 124, .move (.tmp 123), 4, "law.go:189", #[⟨1, .data⟩], none⟩ rfl ?_
        refine wTk 3 ⟨some 125, .move (.tmp 12), 3, "law.go:189", #[⟨2, .guard⟩], some (2, false)⟩ rfl ?_
        refine wTk 4 ⟨some 126, .binOp .eql 3 (.tmp 125) (.const (.int .i64 1)) 3, 4, "law.go:189", #[⟨3, .data⟩, ⟨2, .guard⟩], some (2, false)⟩ rfl ?_
        refine wTk 5 ⟨some 127, .fieldAddr 29 (.tmp 1) 0, 0, "law.go:189", #[⟨2, .guard⟩], some (2, false)⟩ rfl ?_
        refine wTk 6 ⟨some 128, .load 22 (.tmp 127), 22, "law.go:189", #[⟨5, .data⟩, ⟨2, .guard⟩], some (2, false)⟩ rfl ?_
        refine wTk 7 ⟨some 129, .move (.tmp 6), 23, "law.go:189", #[⟨2, .guard⟩], some (2, false)⟩ rfl ?_
        refine wTk 8 ⟨some 130, .move (.tmp 11), 3, "law.go:189", #[⟨2, .guard⟩], some (2, false)⟩ rfl ?_
        refine wTk 9 ⟨some 131, .indexAddr 23 (.tmp 129) (.tmp 130), 0, "law.go:189", #[⟨7, .data⟩, ⟨8, .data⟩, ⟨2, .guard⟩], some (2, false)⟩ rfl ?_
        refine wTk 10 ⟨some 132, .load 49 (.tmp 131), 49, "law.go:189", #[⟨9, .data⟩, ⟨2, .guard⟩], some (2, false)⟩ rfl ?_
        refine wpAnyH_ready (rs := [11]) (by kernel_rfl) (by simp) (.cons rfl (fun K hK => ?_) .nil)
        go_simp
        go_wp2_with fail
        refine (keepBars_any m.ro m.rn m.rc R x _ (((HS.out.r.below HKp.out.bel).below HU1.out).below (below_drew1 u1))).mono ?_
        rintro e u2 ⟨rfl, b2⟩
        rw [Hp.out]
        have HV2 : Hid (Below u1.heap.size u1 u2) := (below_drew1 u1).trans b2
        refine hK.out _ _ (HSv.out _ HV2.out) (fun hHeld => ?_)
        clear hK K
        clear b2
        refine wTk 12 ⟨some 134, .binOp .gtr 3 (.tmp 133) (.const (.int .i64 0)) 3, 4, "law.go:189", #[⟨11, .data⟩, ⟨2, .guard⟩], some (2, false)⟩ rfl ?_
        refine wTk 13 ⟨some 135, .binOp .neq 4 (.tmp 126) (.tmp 134) 4, 4, "law.go:189", #[⟨4, .data⟩, ⟨12, .data⟩, ⟨2, .guard⟩], some (2, false)⟩ rfl ?_
        refine wTk 14 ⟨some 136, .pick (.tmp 124) (.const (.bool true)) (.tmp 135), 4, "law.go:189", #[⟨2, .data⟩, ⟨13, .data⟩], none⟩ rfl ?_
        refine wpAnyH_done (by kernel_rfl) ?_ _
        clear hHeld
        have HNx : Hid (Below wq.heap.size wq u2) := (HJ.out.trans (HU1.out.mono HJ.out.size)).trans (HV2.out.mono (Nat.le_trans HJ.out.size HU1.out.size))
        go_wp2_with fail
        go_roundw
        case rel => exact ⟨k + 1, Hlt.out, by simp, HNx⟩
        case measure => simp [intOf]; have := Hlt.out; omega
       ·have hq : (F.countP (fun r => covB r x) : Int) = 0 := by
         rw [decide_eq_false (show ¬ (0 : Int) < (p : Int) by omega)] at hb
         have h1 : ¬ (F.countP (fun r => covB r x) : Int) = 1 := by simpa using hb
         omega
        rw [hq]
        have hpz : p = 0 := by omega
        clear hb ho hq
        go_upto_region 26 with fail
        refine wp_region_held_drew (S := fun W => W.cell? ⟨G, 0, none⟩ = some (.slice m.ro m.rn m.rc) ∧ (K.ld28 (.pointer (some (ad.add (k * 4))))).run Tryz.prog W = .ok (K.EV x) W) (by kernel_rfl) (HSv.out _ (below_drew1 u1)) (fun hHeld => ?_)
        refine wTk 0 ⟨some 122, .move (.tmp 12), 3, "law.go:189", #[], none⟩ rfl ?_
        refine wTk 1 ⟨some 123, .binOp .gtr 3 (.tmp 122) (.const (.int .i64 1)) 3, 4, "law.go:189", #[⟨0, .data⟩], none⟩ rfl ?_
        refine wTk 2 ⟨some 124, .move (.tmp 123), 4, "law.go:189", #[⟨1, .data⟩], none⟩ rfl ?_
        refine wTk 3 ⟨some 125, .move (.tmp 12), 3, "law.go:189", #[⟨2, .guard⟩], some (2, false)⟩ rfl ?_
        refine wTk 4 ⟨some 126, .binOp .eql 3 (.tmp 125) (.const (.int .i64 1)) 3, 4, "law.go:189", #[⟨3, .data⟩, ⟨2, .guard⟩], some (2, false)⟩ rfl ?_
        refine wTk 5 ⟨some 127, .fieldAddr 29 (.tmp 1) 0, 0, "law.go:189", #[⟨2, .guard⟩], some (2, false)⟩ rfl ?_
        refine wTk 6 ⟨some 128, .load 22 (.tmp 127), 22, "law.go:189", #[⟨5, .data⟩, ⟨2, .guard⟩], some (2, false)⟩ rfl ?_
        refine wTk 7 ⟨some 129, .move (.tmp 6), 23, "law.go:189", #[⟨2, .guard⟩], some (2, false)⟩ rfl ?_
        refine wTk 8 ⟨some 130, .move (.tmp 11), 3, "law.go:189", #[⟨2, .guard⟩], some (2, false)⟩ rfl ?_
        refine wTk 9 ⟨some 131, .indexAddr 23 (.tmp 129) (.tmp 130), 0, "law.go:189", #[⟨7, .data⟩, ⟨8, .data⟩, ⟨2, .guard⟩], some (2, false)⟩ rfl ?_
        refine wTk 10 ⟨some 132, .load 49 (.tmp 131), 49, "law.go:189", #[⟨9, .data⟩, ⟨2, .guard⟩], some (2, false)⟩ rfl ?_
        refine wpAnyH_ready (rs := [11]) (by kernel_rfl) (by simp) (.cons rfl (fun K hK => ?_) .nil)
        go_simp
        go_wp2_with fail
        refine (keepBars_any m.ro m.rn m.rc R x _ (((HS.out.r.below HKp.out.bel).below HU1.out).below (below_drew1 u1))).mono ?_
        rintro e u2 ⟨rfl, b2⟩
        rw [Hp.out, hpz]
        have HV2 : Hid (Below u1.heap.size u1 u2) := (below_drew1 u1).trans b2
        refine hK.out _ _ (HSv.out _ HV2.out) (fun hHeld => ?_)
        clear hK K
        clear b2
        refine wTk 12 ⟨some 134, .binOp .gtr 3 (.tmp 133) (.const (.int .i64 0)) 3, 4, "law.go:189", #[⟨11, .data⟩, ⟨2, .guard⟩], some (2, false)⟩ rfl ?_
        refine wTk 13 ⟨some 135, .binOp .neq 4 (.tmp 126) (.tmp 134) 4, 4, "law.go:189", #[⟨4, .data⟩, ⟨12, .data⟩, ⟨2, .guard⟩], some (2, false)⟩ rfl ?_
        refine wTk 14 ⟨some 136, .pick (.tmp 124) (.const (.bool true)) (.tmp 135), 4, "law.go:189", #[⟨2, .data⟩, ⟨13, .data⟩], none⟩ rfl ?_
        refine wpAnyH_done (by kernel_rfl) ?_ _
        clear hHeld
        have HNx : Hid (Below wq.heap.size wq u2) := (HJ.out.trans (HU1.out.mono HJ.out.size)).trans (HV2.out.mono (Nat.le_trans HJ.out.size HU1.out.size))
        go_wp2_with fail
        go_roundw
        case rel => exact ⟨k + 1, Hlt.out, by simp, HNx⟩
        case measure => simp [intOf]; have := Hlt.out; omega
      ·have hlti : ¬ (k : Int) < (l : Int) := by omega
       have HFp := hide (HFq.out.below HJ.out)
       clear hlt hk HJ
       go_wp2_with fail
       clear hlti
       refine (fold_any qo qn qc F wp HFp.out (fold_wt HF.out)).mono ?_
       rintro e v1 (⟨-, ⟨mo, mn, mc⟩, M, rfl, SM, b1, -, hM⟩ | ⟨hno, -, -⟩)
       rotate_left
       ·exact absurd HOF.out hno
       rw [show HsV ⟨mo, mn, mc⟩ = Value.slice mo mn mc from rfl]
       replace SM : RcS v1 mo mn mc M := SM
       have HSM := hide SM
       have HPl := hide (fold_rest HF.out hM)
       have HK1 := hide (HKp.out.below b1)
       have HF1 := hide (HFp.out.below b1)
       clear SM hM b1 HKp HFp
       go_wp2_with fail
       refine (sameRecords_any mo qo mn qn mc qc M F v1 HSM.out HF1.out).mono ?_
       rintro e v2 ⟨x, rfl, hx, b2⟩
       obtain rfl : x = true := hx.2 HPl.out
       have HK2 := hide (HK1.out.below b2)
       have HF2 := hide (HF1.out.below b2)
       clear hx b2 HK1 HF1 HSM
       have a2 := HK2.out.box.a
       have r2 := HK2.out.box.r
       go_wp2_with fail
       clear a2 r2
       refine (apply_any m.ao m.ro m.an m.ac m.rn m.rc A R v2 (HS.out.a.below HK2.out.bel) (HS.out.r.below HK2.out.bel) HWt.out HNM.out).mono ?_
       intro e v3 h3
       obtain ⟨Z, er, ⟨a3, n3, c3, rfl, S3, b3, -⟩, D3⟩ := h3.detE
       have HK3 := hide (HK2.out.below b3)
       have HF3 := hide (HF2.out.below b3)
       have HZ3 := hide S3
       have HD3 := hide D3
       clear h3 S3 b3 D3 HK2 HF2
       have a2 := HK3.out.box.a
       go_wp2_with fail
       clear a2
       refine (apply_any m.ao qo m.an m.ac qn qc A F v3 (HS.out.a.below HK3.out.bel) HF3.out (fold_wt HF.out) (by have h : qn * (m.an + 1) ≤ 209716 * (1048576 + 1) := Nat.mul_le_mul hqn (by omega); omega)).mono ?_
       intro e v4 h4
       obtain ⟨Z', er', ⟨a4, n4, c4, rfl, S4, b4, -⟩, D4⟩ := h4.detE
       obtain ⟨rfl, rfl⟩ := foldApD HF.out HO.out HOF.out HD3.out D4
       have HK4 := hide (HK3.out.below b4)
       have HZ4 := hide (HZ3.out.below b4)
       have HS4 := hide S4
       clear h4 S4 b4 D4 HK3 HF3 HZ3 HD3
       have heq : (er == er) = true := by simp
       go_wp2_with fail
       refine (sameEntries_any a3 a4 n3 n4 c3 c4 Z Z v4 HZ4.out HS4.out).mono ?_
       rintro e v5 ⟨x, rfl, hx, b5⟩
       obtain rfl : x = true := hx.2 rfl
       have HK5 := hide (HK4.out.below b5)
       clear hx b5 heq
       go_wp2_with fail
       go_ret
       exact ⟨rfl, HK5.out.bel⟩
end Go.Proofs.YtfpmijfcemopoaaGreat
