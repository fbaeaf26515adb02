/- TCk LPu LLtr -/
import Derived.Test.YtalpnhfoaohhhaaGreatTj16
import Derived.Test.YtalpnhfoaohhhaaGreatTj26
import Derived.Test.YtalpnhfoaohhhaaGreatTj18
import Derived.Test.YtalpnhfoaohhhaaGreatTj12
import Derived.Below
import Derived.Laws.MakeOwn
set_option maxRecDepth 100000
namespace Go.Proofs.YtalpnhfoaohhhaaGreat
open Go.RowKit
attribute [local go_sem ↓] ldP_eq stP_eq ldFa_eq stFa_eq
attribute [local go_sem] cells_PV PC_size cells_FaV FaC_size
def ChkF (f : Fc) (x : Int) : Prop := (x = 0 /\ FormF f) ∨ (x = 1 /\ ¬ FormF f)
theorem chk_okN {f : Fc} (hl : f.es.length = f.an) : K.chk f.es = 0 ↔ K.okN f.es f.an = true := by
 unfold K.chk
 rw [hl]
 split <;> simp_all
theorem tCheck_any (f : Fc) (w : World) (hF : FcOk w f) : Calls Tryz.prog 26 #[FaV (mkF f)] w fun e w' => GivesK w w' e (ChkF f) := by
 have HX := hide (FaBox_new w (mkF f))
 have HBK := hide (below_new w (.cells (FaC (mkF f)) 29))
 have HS := hide (hF.below HBK.out)
 clear hF
 obtain ⟨wk, hwk⟩ : ∃ wk, w.alloc (.cells (FaC (mkF f)) 29) = wk := ⟨_, rfl⟩
 obtain ⟨G, hG⟩ : ∃ G, w.heap.size = G := ⟨_, rfl⟩
 rw [hwk] at HX HBK HS
 rw [hG] at HX
 obtain ⟨c0, c3⟩ := HX.out.cs
 go_enter Tryz.func26, Tryz.ntmps26
 go_wp2_with fail
 clear hwk hG
 refine (K.lcheck_any f.ao f.an f.ac f.es _ HS.out.es).mono ?_
 rintro e w1 ⟨rfl, b1⟩
 have HB1 := hide (HBK.out.trans (b1.mono HBK.out.size))
 have HX1 := hide (HX.out.below b1)
 have HS1 := hide (HS.out.below b1)
 clear b1 c0 c3
 by_cases h0 : K.chk f.es = 0
 ·have H0 := hide h0
  rw [h0]
  clear h0
  have lp := run_ldP HX1.out.past
  go_wp2_with fail
  refine (isNormP_any f.p _ HS1.out.p).mono ?_
  rintro e w2 ⟨b, rfl, hb, b2⟩
  have HB2 := hide (HB1.out.trans (b2.mono HB1.out.size))
  have HX2 := hide (HX1.out.below b2)
  have HS2 := hide (HS1.out.below b2)
  clear b2 lp
  cases b with
  | false =>
   have HE : Hid (ChkF f 1) := .inr ⟨rfl, fun h => (by have := hb.2 h.2.1; cases this)⟩
   clear hb
   go_wp2_with fail
   go_ret
   exact ⟨_, rfl, HE.out, HB2.out⟩
  | true =>
   have HI : Hid (InForm f.p.P) := hb.1 rfl
   obtain ⟨-, c3⟩ := HX2.out.cs
   clear hb
   go_wp2_with fail
   refine (keepCheck_any f.ro f.rn f.rc f.rs _ HS2.out.rs).mono ?_
   rintro e w3 ⟨x, rfl, hx, b3⟩
   have HB3 := hide (HB2.out.trans (b3.mono HB2.out.size))
   clear b3 c3
   rcases hx with ⟨rfl, h1⟩ | ⟨rfl, h1⟩
   ·have HE : Hid (ChkF f 0) := .inl ⟨rfl, (chk_okN HS.out.es.1).1 H0.out, HI.out, h1⟩
    clear h1
    go_wp2_with fail
    go_ret
    exact ⟨_, rfl, HE.out, HB3.out⟩
   ·have HE : Hid (ChkF f 1) := .inr ⟨rfl, fun h => h1 h.2.2⟩
    clear h1
    go_wp2_with fail
    go_ret
    exact ⟨_, rfl, HE.out, HB3.out⟩
 ·have HE : Hid (ChkF f 1) := .inr ⟨rfl, fun h => h0 ((chk_okN HS.out.es.1).2 h.1)⟩
  have hne : (K.chk f.es != 0) = true := by simp [h0]
  clear h0
  go_wp2_with fail
  go_ret
  exact ⟨_, rfl, HE.out, HB1.out⟩
theorem refCheckF_any (f : Fc) (w : World) (hF : FcOk w f) : Calls Tryz.prog 27 #[FaV (mkF f)] w fun e w' => GivesK w w' e (ChkF f) := by
 have HX := hide (FaBox_new w (mkF f))
 have HBK := hide (below_new w (.cells (FaC (mkF f)) 29))
 have HS := hide (hF.below HBK.out)
 clear hF
 obtain ⟨wk, hwk⟩ : ∃ wk, w.alloc (.cells (FaC (mkF f)) 29) = wk := ⟨_, rfl⟩
 obtain ⟨G, hG⟩ : ∃ G, w.heap.size = G := ⟨_, rfl⟩
 rw [hwk] at HX HBK HS
 rw [hG] at HX
 obtain ⟨c0, c3⟩ := HX.out.cs
 go_enter Tryz.func27, Tryz.ntmps27
 go_wp2_with fail
 clear hwk hG
 refine (K.refCheckL_any f.ao f.an f.ac f.es _ HS.out.es).mono ?_
 rintro e w1 ⟨rfl, b1⟩
 have HB1 := hide (HBK.out.trans (b1.mono HBK.out.size))
 have HX1 := hide (HX.out.below b1)
 have HS1 := hide (HS.out.below b1)
 clear b1 c0 c3
 by_cases h0 : K.chk f.es = 0
 ·have H0 := hide h0
  rw [h0]
  clear h0
  have lp := run_ldP HX1.out.past
  go_wp2_with fail
  refine (refIsNorm_any f.p _ HS1.out.p).mono ?_
  rintro e w2 ⟨b, rfl, hb, b2⟩
  have HB2 := hide (HB1.out.trans (b2.mono HB1.out.size))
  have HX2 := hide (HX1.out.below b2)
  have HS2 := hide (HS1.out.below b2)
  clear b2 lp
  cases b with
  | false =>
   have HE : Hid (ChkF f 1) := .inr ⟨rfl, fun h => (by have := hb.2 h.2.1; cases this)⟩
   clear hb
   go_wp2_with fail
   go_ret
   exact ⟨_, rfl, HE.out, HB2.out⟩
  | true =>
   have HI : Hid (InForm f.p.P) := hb.1 rfl
   obtain ⟨-, c3⟩ := HX2.out.cs
   clear hb
   go_wp2_with fail
   refine (refChkR_any f.ro f.rn f.rc f.rs _ HS2.out.rs).mono ?_
   rintro e w3 ⟨x, rfl, hx, b3⟩
   have HB3 := hide (HB2.out.trans (b3.mono HB2.out.size))
   clear b3 c3
   rcases hx with ⟨rfl, h1⟩ | ⟨rfl, h1⟩
   ·have HE : Hid (ChkF f 0) := .inl ⟨rfl, (chk_okN HS.out.es.1).1 H0.out, HI.out, h1⟩
    clear h1
    go_wp2_with fail
    go_ret
    exact ⟨_, rfl, HE.out, HB3.out⟩
   ·have HE : Hid (ChkF f 1) := .inr ⟨rfl, fun h => h1 h.2.2⟩
    clear h1
    go_wp2_with fail
    go_ret
    exact ⟨_, rfl, HE.out, HB3.out⟩
 ·have HE : Hid (ChkF f 1) := .inr ⟨rfl, fun h => h0 ((chk_okN HS.out.es.1).2 h.1)⟩
  have hne : (K.chk f.es != 0) = true := by simp [h0]
  clear h0
  go_wp2_with fail
  go_ret
  exact ⟨_, rfl, HE.out, HB1.out⟩
theorem box2F (w : World) (f g : Fc) : ∃ wk, (w.alloc (.cells (FaC (mkF f)) 29)).alloc (.cells (FaC (mkF g)) 29) = wk /\ Hid (FaBox wk w.heap.size (mkF f)) /\ Hid (FaBox wk (w.heap.size + 1) (mkF g)) /\ Hid (Below w.heap.size w wk) := by
 have b1 := below_new w (.cells (FaC (mkF f)) 29)
 have b2 := below_new (w.alloc (.cells (FaC (mkF f)) 29)) (.cells (FaC (mkF g)) 29)
 have X2 := FaBox_new (w.alloc (.cells (FaC (mkF f)) 29)) (mkF g)
 rw [World.size_alloc] at X2
 exact ⟨_, rfl, (FaBox_new w (mkF f)).below b2, X2, b1.trans (b2.mono b1.size)⟩
def ChkB (f g : Fc) (x : Int) : Prop := (x = 0 /\ FormF f /\ FormF g) ∨ (x = 1 /\ ¬ (FormF f /\ FormF g))
theorem checkBoth_any (f g : Fc) (w : World) (hF : FcOk w f) (hG : FcOk w g) : Calls Tryz.prog 30 #[FaV (mkF f), FaV (mkF g)] w fun e w' => GivesK w w' e (ChkB f g) := by
 obtain ⟨wk, hwk, HX, HY, HBK⟩ := box2F w f g
 have HS := hide (hF.below HBK.out)
 have HR := hide (hG.below HBK.out)
 clear hF hG
 have lf := run_ldFa HX.out
 go_enter Tryz.func30, Tryz.ntmps30
 go_wp2_with fail
 clear hwk
 refine (tCheck_any f _ HS.out).mono ?_
 rintro e w1 ⟨x, rfl, hx, b1⟩
 have HB1 := hide (HBK.out.trans (b1.mono HBK.out.size))
 have HY1 := hide (HY.out.below b1)
 have HR1 := hide (HR.out.below b1)
 clear b1 lf
 rcases hx with ⟨rfl, h1⟩ | ⟨rfl, h1⟩
 ·have H1 := hide h1
  clear h1
  have lg := run_ldFa HY1.out
  go_wp2_with fail
  clear lg
  refine (tCheck_any g _ HR1.out).mono ?_
  rintro e w2 ⟨x, rfl, hx, b2⟩
  have HE : Hid (ChkB f g x /\ Below w.heap.size w w2) := by
   refine ⟨?_, HB1.out.trans (b2.mono HB1.out.size)⟩
   rcases hx with ⟨rfl, h2⟩ | ⟨rfl, h2⟩
   ·exact .inl ⟨rfl, H1.out, h2⟩
   ·exact .inr ⟨rfl, fun h => h2 h.2⟩
  clear hx b2
  go_wp2_with fail
  go_ret
  exact ⟨_, rfl, HE.out.1, HE.out.2⟩
 ·have HE : Hid (ChkB f g 1 /\ Below w.heap.size w w1) := ⟨.inr ⟨rfl, fun h => h1 h.1⟩, HB1.out⟩
  clear h1
  go_wp2_with fail
  go_ret
  exact ⟨_, rfl, HE.out.1, HE.out.2⟩
end Go.Proofs.YtalpnhfoaohhhaaGreat
namespace Go.Proofs.YtalpnhfoaohhhaaGreat.K
section


def Chunked {α : Type} (le : α -> α -> Prop) (w : Nat) (L : List α) : Prop := ∀ q, ((L.drop (q * w)).take w).Pairwise le
theorem chunked_one {α : Type} (le : α -> α -> Prop) (L : List α) : Chunked le 1 L := by
 intro q
 match h : (L.drop (q * 1)).take 1 with
 | [] => exact List.Pairwise.nil
 | [a] => exact List.pairwise_singleton _ _
 | a :: b :: r =>
  have := congrArg List.length h
  simp at this
  omega
theorem chunked_whole {α : Type} {le : α -> α -> Prop} {w : Nat} {L : List α} (h : Chunked le w L) (hl : L.length <= w) : L.Pairwise le := by
 have := h 0
 rwa [Nat.zero_mul, List.drop_zero, List.take_of_length_le hl] at this
theorem chunked_nil {α : Type} (le : α -> α -> Prop) (w : Nat) : Chunked le w [] := by intro q; simp
theorem chunked_snoc {α : Type} {le : α -> α -> Prop} {w q0 : Nat} {M X : List α} (hM : Chunked le w M) (hl : M.length = q0 * w) (hX : X.Pairwise le) (hXl : X.length <= w) : Chunked le w (M ++ X) := by
 intro q
 by_cases h : q < q0
 ·have e : q * w + w <= M.length := by rw [hl, <- Nat.succ_mul]; exact Nat.mul_le_mul_right _ h
  rw [List.drop_append_of_le_length (by omega), List.take_append_of_le_length (by rw [List.length_drop]; omega)]
  exact hM q
 ·have e : M.length <= q * w := by rw [hl]; exact Nat.mul_le_mul_right _ (by omega)
  rw [List.drop_append, List.drop_eq_nil_of_le e, List.nil_append]
  exact (hX.sublist (List.drop_sublist _ _)).sublist (List.take_sublist _ _)
theorem seg_cons {α : Type} (L : List α) (d : α) (i m : Nat) (h : i < m) (hm : m <= L.length) : (L.drop i).take (m - i) = L.getD i d :: (L.drop (i + 1)).take (m - (i + 1)) := by
 rw [List.drop_eq_getElem_cons (by omega), show m - i = (m - (i + 1)) + 1 by omega, List.take_succ_cons]
 simp [List.getD, show i < L.length by omega]
theorem seg_nil {α : Type} (L : List α) (i m : Nat) (h : m <= i) : (L.drop i).take (m - i) = [] := by rw [show m - i = 0 by omega]; simp
def mrg {α : Type} (le : α -> α -> Bool) (L : List α) (i mid j en : Nat) : List α := List.merge ((L.drop i).take (mid - i)) ((L.drop j).take (en - j)) le
theorem mrg_none {α : Type} (le : α -> α -> Bool) (L : List α) (i mid j en : Nat) (hi : mid <= i) (hj : en <= j) : mrg le L i mid j en = [] := by unfold mrg; rw [seg_nil L i mid hi, seg_nil L j en hj]; simp
theorem mrg_left {α : Type} (le : α -> α -> Bool) (L : List α) (d : α) (i mid j en : Nat) (hi : i < mid) (hm : mid <= L.length) (hj : en <= j) : mrg le L i mid j en = L.getD i d :: mrg le L (i + 1) mid j en := by
 unfold mrg; rw [seg_nil L j en hj, seg_cons L d i mid hi hm]; simp
theorem mrg_right {α : Type} (le : α -> α -> Bool) (L : List α) (d : α) (i mid j en : Nat) (hi : mid <= i) (hj : j < en) (he : en <= L.length) : mrg le L i mid j en = L.getD j d :: mrg le L i mid (j + 1) en := by
 unfold mrg; rw [seg_nil L i mid hi, seg_cons L d j en hj he]; simp
theorem mrg_le {α : Type} (le : α -> α -> Bool) (L : List α) (d : α) (i mid j en : Nat) (hi : i < mid) (hm : mid <= L.length) (hj : j < en) (he : en <= L.length) (h : le (L.getD i d) (L.getD j d) = true) : mrg le L i mid j en = L.getD i d :: mrg le L (i + 1) mid j en := by
 unfold mrg; rw [seg_cons L d i mid hi hm, seg_cons L d j en hj he, List.cons_merge_cons, if_pos h]
theorem mrg_gt {α : Type} (le : α -> α -> Bool) (L : List α) (d : α) (i mid j en : Nat) (hi : i < mid) (hm : mid <= L.length) (hj : j < en) (he : en <= L.length) (h : le (L.getD i d) (L.getD j d) = false) : mrg le L i mid j en = L.getD j d :: mrg le L i mid (j + 1) en := by
 unfold mrg; rw [seg_cons L d i mid hi hm, seg_cons L d j en hj he, List.cons_merge_cons, if_neg (by rw [h]; simp)]
theorem seg_split {α : Type} (L : List α) (a b c : Nat) (h : a <= b) (h2 : b <= c) : (L.drop a).take (b - a) ++ (L.drop b).take (c - b) = (L.drop a).take (c - a) := by
 have e : c - a = (b - a) + (c - b) := by omega
 rw [e, List.take_add, List.drop_drop, show a + (b - a) = b by omega]
theorem mrg_perm {α : Type} (le : α -> α -> Bool) (L : List α) (a mid en : Nat) (h : a <= mid) (h2 : mid <= en) : (mrg le L a mid mid en).Perm ((L.drop a).take (en - a)) := by
 unfold mrg
 refine (List.merge_perm_append le).trans ?_
 rw [seg_split L a mid en h h2]
theorem mrg_sorted {α : Type} {le : α -> α -> Bool} (ht : ∀ a b c, le a b = true -> le b c = true -> le a c = true) (hto : ∀ a b, (le a b || le b a) = true) (L : List α) (w q mid en : Nat) (h : Chunked (fun x y => le x y = true) w L) (hm : mid = min (2 * q * w + w) L.length) (he : en = min (mid + w) L.length) :
  (mrg le L (2 * q * w) mid mid en).Pairwise (fun x y => le x y = true) := by
 unfold mrg
 refine List.pairwise_merge ht hto _ _ ?_ ?_
 ·have h1 := h (2 * q)
  exact h1.sublist (List.take_sublist_take_left (by omega))
 ·by_cases hl : 2 * q * w + w <= L.length
  ·have h1 := h (2 * q + 1)
   have e : (2 * q + 1) * w = mid := by rw [hm, Nat.min_eq_left hl, Nat.add_mul, Nat.one_mul]
   rw [e] at h1
   exact h1.sublist (List.take_sublist_take_left (by omega))
  ·have : L.drop mid = [] := List.drop_eq_nil_of_le (by omega)
   rw [this]; simp
structure Pass {α : Type} (le : α -> α -> Bool) (L M : List α) (n q f t : Nat) : Prop where
 hf : f = 2 * t * q
 hl : M.length = min f n
 hp : M.Perm (L.take f)
 hc : Chunked (fun x y => le x y = true) (2 * q) M
theorem Pass.start {α : Type} (le : α -> α -> Bool) (L : List α) (n q : Nat) : Pass le L [] n q 0 0 := ⟨by simp, by simp, by simp, chunked_nil _ _⟩
theorem Pass.step {α : Type} {le : α -> α -> Bool} (ht : ∀ a b c, le a b = true -> le b c = true -> le a c = true) (hto : ∀ a b, (le a b || le b a) = true) {L M : List α} {n q f t mid en : Nat} (P : Pass le L M n q f t) (hn : L.length = n) (hlt : f < n) (hC : Chunked (fun x y => le x y = true) q L)
  (hm : mid = min (f + q) n) (he : en = min (mid + q) n) : Pass le L (M ++ mrg le L f mid mid en) n q (f + 2 * q) (t + 1) := by
 have h1 := mrg_perm le L f mid en (by omega) (by omega)
 have hs := mrg_sorted ht hto L q t mid en hC (by rw [hn, <- P.hf]; exact hm) (by rw [hn]; exact he)
 rw [<- P.hf] at hs
 have hxl : (mrg le L f mid mid en).length = en - f := by rw [h1.length_eq, List.length_take, List.length_drop]; omega
 have hml : M.length = f := by rw [P.hl]; omega
 refine ⟨?_, ?_, ?_, ?_⟩
 ·rw [P.hf, Nat.mul_add, Nat.add_mul]
 ·rw [List.length_append, hxl, hml]; omega
 ·refine (P.hp.append h1).trans ?_
  have e : L.take (f + 2 * q) = L.take en := by
   by_cases h : f + 2 * q <= n
   ·rw [show en = f + 2 * q by omega]
   ·rw [List.take_of_length_le (by omega), List.take_of_length_le (by omega)]
  have e2 := seg_split L 0 f en (by omega) (by omega)
  simp only [List.drop_zero, Nat.sub_zero] at e2
  rw [e, e2]
 ·exact chunked_snoc P.hc (q0 := t) (by rw [hml, P.hf, Nat.mul_comm 2 t, Nat.mul_assoc]) hs (by rw [hxl]; omega)
theorem Pass.done {α : Type} {le : α -> α -> Bool} {L M : List α} {n q f t : Nat} (P : Pass le L M n q f t) (hn : L.length = n) (h : n <= f) : M.Perm L /\ Chunked (fun x y => le x y = true) (2 * q) M /\ M.length = n :=
 ⟨by have := P.hp; rwa [List.take_of_length_le (by omega)] at this, P.hc, by rw [P.hl]; omega⟩
theorem mrg_length {α : Type} (le : α -> α -> Bool) (L : List α) (f mid en n : Nat) (hn : L.length = n) (h : f <= mid) (h2 : mid <= en) (he : en <= n) : (mrg le L f mid mid en).length = en - f := by
 rw [(mrg_perm le L f mid en h h2).length_eq, List.length_take, List.length_drop]; omega
end
section
open Go.RowKit
attribute [local go_sem ↓] ld28_eq st28_eq ld26_eq
attribute [local go_sem] zero_EC cells_EV EC_size
def leE (x y : En) : Bool := !ahead y x
theorem leE_trans (a b c : En) (h1 : leE a b = true) (h2 : leE b c = true) : leE a c = true := by
 simp [leE, ahead] at *; omega
theorem leE_total (a b : En) : (leE a b || leE b a) = true := by
 simp [leE, ahead]; omega
theorem later_any (x y : En) (w : World) : Calls Tryz.prog 97 #[EV x, EV y, .int .i64 0] w fun e w' => e = .returned (.bool (ahead y x)) /\ Below w.heap.size w w' := by
 have B1 := below_new w (.cells (EC x) 36)
 have X1 := box_new w 36 x
 have Y2 := box_new (w.alloc (.cells (EC x) 36)) 36 y
 have X2 := X1.below (below_new (w.alloc (.cells (EC x) 36)) (.cells (EC y) 36))
 have HB := hide (B1.trans ((below_new (w.alloc (.cells (EC x) 36)) (.cells (EC y) 36)).mono B1.size))
 rw [World.size_alloc] at Y2
 have l1 := run_ld26 X2.at
 have l2 := run_ld26 Y2.at
 have HC := hide (ahead_dc y x ((w.alloc (.cells (EC x) 36)).alloc (.cells (EC y) 36)))
 clear B1 X1 X2 Y2
 go_enter Tryz.func97, Tryz.ntmps97
 go_wp2_with (go_at_call 86; refine HC.out.mono ?_; rintro e w3 ⟨rfl, b3⟩)
 go_ret
 exact ⟨rfl, HB.out.trans (b3.mono HB.out.size)⟩
end
end Go.Proofs.YtalpnhfoaohhhaaGreat.K
