/- TCk LPu LLtr -/
import Derived.Test.YtalpnhfoaohhhaaGreatTd16
import Derived.Test.YtalpnhfoaohhhaaGreatTd26
import Derived.Test.YtalpnhfoaohhhaaGreatTd18
import Derived.Test.YtalpnhfoaohhhaaGreatTd12
import Derived.Below
import Derived.Laws.MakeOwn
set_option maxRecDepth 100000
namespace Go.Proofs.YtalpnhfoaohhhaaGreat
open Go.RowKit
attribute [local go_sem ↓] ldP_eq stP_eq ldFa_eq stFa_eq
attribute [local go_sem] cells_PV PC_size cells_FaV FaC_size
def ChkF (f : Fc) (x : Int) : Prop := (x = 0 /\ FormF f) ∨ (x = 1 /\ ¬ FormF f)
theorem chk_okN {f : Fc} (hl : f.es.length = f.an) : K.chk f.es = 0 ↔ K.okN f.es f.an = true := by
 unfold K.chk
 rw [hl]
 split <;> simp_all
theorem tCheck_any (f : Fc) (w : World) (hF : FcOk w f) : Calls Tryz.prog 26 #[FaV (mkF f)] w fun e w' => GivesK w w' e (ChkF f) := by
 have HX := hide (FaBox_new w (mkF f))
 have HBK := hide (below_new w (.cells (FaC (mkF f)) 29))
 have HS := hide (hF.below HBK.out)
 clear hF
 obtain ⟨wk, hwk⟩ : ∃ wk, w.alloc (.cells (FaC (mkF f)) 29) = wk := ⟨_, rfl⟩
 obtain ⟨G, hG⟩ : ∃ G, w.heap.size = G := ⟨_, rfl⟩
 rw [hwk] at HX HBK HS
 rw [hG] at HX
 obtain ⟨c0, c3⟩ := HX.out.cs
 go_enter Tryz.func26, Tryz.ntmps26
 go_wp2_with fail
 clear hwk hG
 refine (K.lcheck_any f.ao f.an f.ac f.es _ HS.out.es).mono ?_
 rintro e w1 ⟨rfl, b1⟩
 have HB1 := hide (HBK.out.trans (b1.mono HBK.out.size))
 have HX1 := hide (HX.out.below b1)
 have HS1 := hide (HS.out.below b1)
 clear b1 c0 c3
 by_cases h0 : K.chk f.es = 0
 ·have H0 := hide h0
  rw [h0]
  clear h0
  have lp := run_ldP HX1.out.past
  go_wp2_with fail
  refine (isNormP_any f.p _ HS1.out.p).mono ?_
  rintro e w2 ⟨b, rfl, hb, b2⟩
  have HB2 := hide (HB1.out.trans (b2.mono HB1.out.size))
  have HX2 := hide (HX1.out.below b2)
  have HS2 := hide (HS1.out.below b2)
  clear b2 lp
  cases b with
  | false =>
   have HE : Hid (ChkF f 1) := .inr ⟨rfl, fun h => (by have := hb.2 h.2.1; cases this)⟩
   clear hb
   go_wp2_with fail
   go_ret
   exact ⟨_, rfl, HE.out, HB2.out⟩
  | true =>
   have HI : Hid (InForm f.p.P) := hb.1 rfl
   obtain ⟨-, c3⟩ := HX2.out.cs
   clear hb
   go_wp2_with fail
   refine (keepCheck_any f.ro f.rn f.rc f.rs _ HS2.out.rs).mono ?_
   rintro e w3 ⟨x, rfl, hx, b3⟩
   have HB3 := hide (HB2.out.trans (b3.mono HB2.out.size))
   clear b3 c3
   rcases hx with ⟨rfl, h1⟩ | ⟨rfl, h1⟩
   ·have HE : Hid (ChkF f 0) := .inl ⟨rfl, (chk_okN HS.out.es.1).1 H0.out, HI.out, h1⟩
    clear h1
    go_wp2_with fail
    go_ret
    exact ⟨_, rfl, HE.out, HB3.out⟩
   ·have HE : Hid (ChkF f 1) := .inr ⟨rfl, fun h => h1 h.2.2⟩
    clear h1
    go_wp2_with fail
    go_ret
    exact ⟨_, rfl, HE.out, HB3.out⟩
 ·have HE : Hid (ChkF f 1) := .inr ⟨rfl, fun h => h0 ((chk_okN HS.out.es.1).2 h.1)⟩
  have hne : (K.chk f.es != 0) = true := by simp [h0]
  clear h0
  go_wp2_with fail
  go_ret
  exact ⟨_, rfl, HE.out, HB1.out⟩
theorem refCheckF_any (f : Fc) (w : World) (hF : FcOk w f) : Calls Tryz.prog 27 #[FaV (mkF f)] w fun e w' => GivesK w w' e (ChkF f) := by
 have HX := hide (FaBox_new w (mkF f))
 have HBK := hide (below_new w (.cells (FaC (mkF f)) 29))
 have HS := hide (hF.below HBK.out)
 clear hF
 obtain ⟨wk, hwk⟩ : ∃ wk, w.alloc (.cells (FaC (mkF f)) 29) = wk := ⟨_, rfl⟩
 obtain ⟨G, hG⟩ : ∃ G, w.heap.size = G := ⟨_, rfl⟩
 rw [hwk] at HX HBK HS
 rw [hG] at HX
 obtain ⟨c0, c3⟩ := HX.out.cs
 go_enter Tryz.func27, Tryz.ntmps27
 go_wp2_with fail
 clear hwk hG
 refine (K.refCheckL_any f.ao f.an f.ac f.es _ HS.out.es).mono ?_
 rintro e w1 ⟨rfl, b1⟩
 have HB1 := hide (HBK.out.trans (b1.mono HBK.out.size))
 have HX1 := hide (HX.out.below b1)
 have HS1 := hide (HS.out.below b1)
 clear b1 c0 c3
 by_cases h0 : K.chk f.es = 0
 ·have H0 := hide h0
  rw [h0]
  clear h0
  have lp := run_ldP HX1.out.past
  go_wp2_with fail
  refine (refIsNorm_any f.p _ HS1.out.p).mono ?_
  rintro e w2 ⟨b, rfl, hb, b2⟩
  have HB2 := hide (HB1.out.trans (b2.mono HB1.out.size))
  have HX2 := hide (HX1.out.below b2)
  have HS2 := hide (HS1.out.below b2)
  clear b2 lp
  cases b with
  | false =>
   have HE : Hid (ChkF f 1) := .inr ⟨rfl, fun h => (by have := hb.2 h.2.1; cases this)⟩
   clear hb
   go_wp2_with fail
   go_ret
   exact ⟨_, rfl, HE.out, HB2.out⟩
  | true =>
   have HI : Hid (InForm f.p.P) := hb.1 rfl
   obtain ⟨-, c3⟩ := HX2.out.cs
   clear hb
   go_wp2_with fail
   refine (refChkR_any f.ro f.rn f.rc f.rs _ HS2.out.rs).mono ?_
   rintro e w3 ⟨x, rfl, hx, b3⟩
   have HB3 := hide (HB2.out.trans (b3.mono HB2.out.size))
   clear b3 c3
   rcases hx with ⟨rfl, h1⟩ | ⟨rfl, h1⟩
   ·have HE : Hid (ChkF f 0) := .inl ⟨rfl, (chk_okN HS.out.es.1).1 H0.out, HI.out, h1⟩
    clear h1
    go_wp2_with fail
    go_ret
    exact ⟨_, rfl, HE.out, HB3.out⟩
   ·have HE : Hid (ChkF f 1) := .inr ⟨rfl, fun h => h1 h.2.2⟩
    clear h1
    go_wp2_with fail
    go_ret
    exact ⟨_, rfl, HE.out, HB3.out⟩
 ·have HE : Hid (ChkF f 1) := .inr ⟨rfl, fun h => h0 ((chk_okN HS.out.es.1).2 h.1)⟩
  have hne : (K.chk f.es != 0) = true := by simp [h0]
  clear h0
  go_wp2_with fail
  go_ret
  exact ⟨_, rfl, HE.out, HB1.out⟩
theorem box2F (w : World) (f g : Fc) : ∃ wk, (w.alloc (.cells (FaC (mkF f)) 29)).alloc (.cells (FaC (mkF g)) 29) = wk /\ Hid (FaBox wk w.heap.size (mkF f)) /\ Hid (FaBox wk (w.heap.size + 1) (mkF g)) /\ Hid (Below w.heap.size w wk) := by
 have b1 := below_new w (.cells (FaC (mkF f)) 29)
 have b2 := below_new (w.alloc (.cells (FaC (mkF f)) 29)) (.cells (FaC (mkF g)) 29)
 have X2 := FaBox_new (w.alloc (.cells (FaC (mkF f)) 29)) (mkF g)
 rw [World.size_alloc] at X2
 exact ⟨_, rfl, (FaBox_new w (mkF f)).below b2, X2, b1.trans (b2.mono b1.size)⟩
def ChkB (f g : Fc) (x : Int) : Prop := (x = 0 /\ FormF f /\ FormF g) ∨ (x = 1 /\ ¬ (FormF f /\ FormF g))
theorem checkBoth_any (f g : Fc) (w : World) (hF : FcOk w f) (hG : FcOk w g) : Calls Tryz.prog 30 #[FaV (mkF f), FaV (mkF g)] w fun e w' => GivesK w w' e (ChkB f g) := by
 obtain ⟨wk, hwk, HX, HY, HBK⟩ := box2F w f g
 have HS := hide (hF.below HBK.out)
 have HR := hide (hG.below HBK.out)
 clear hF hG
 have lf := run_ldFa HX.out
 go_enter Tryz.func30, Tryz.ntmps30
 go_wp2_with fail
 clear hwk
 refine (tCheck_any f _ HS.out).mono ?_
 rintro e w1 ⟨x, rfl, hx, b1⟩
 have HB1 := hide (HBK.out.trans (b1.mono HBK.out.size))
 have HY1 := hide (HY.out.below b1)
 have HR1 := hide (HR.out.below b1)
 clear b1 lf
 rcases hx with ⟨rfl, h1⟩ | ⟨rfl, h1⟩
 ·have H1 := hide h1
  clear h1
  have lg := run_ldFa HY1.out
  go_wp2_with fail
  clear lg
  refine (tCheck_any g _ HR1.out).mono ?_
  rintro e w2 ⟨x, rfl, hx, b2⟩
  have HE : Hid (ChkB f g x /\ Below w.heap.size w w2) := by
   refine ⟨?_, HB1.out.trans (b2.mono HB1.out.size)⟩
   rcases hx with ⟨rfl, h2⟩ | ⟨rfl, h2⟩
   ·exact .inl ⟨rfl, H1.out, h2⟩
   ·exact .inr ⟨rfl, fun h => h2 h.2⟩
  clear hx b2
  go_wp2_with fail
  go_ret
  exact ⟨_, rfl, HE.out.1, HE.out.2⟩
 ·have HE : Hid (ChkB f g 1 /\ Below w.heap.size w w1) := ⟨.inr ⟨rfl, fun h => h1 h.1⟩, HB1.out⟩
  clear h1
  go_wp2_with fail
  go_ret
  exact ⟨_, rfl, HE.out.1, HE.out.2⟩
end Go.Proofs.YtalpnhfoaohhhaaGreat
namespace Go.Proofs.YtalpnhfoaohhhaaGreat.K
section


def Chunked {α : Type} (le : α -> α -> Prop) (w : Nat) (L : List α) : Prop := ∀ q, ((L.drop (q * w)).take w).Pairwise le
def mrg {α : Type} (le : α -> α -> Bool) (L : List α) (i mid j en : Nat) : List α := List.merge ((L.drop i).take (mid - i)) ((L.drop j).take (en - j)) le
structure Pass {α : Type} (le : α -> α -> Bool) (L M : List α) (n q f t : Nat) : Prop where
 hf : f = 2 * t * q
 hl : M.length = min f n
 hp : M.Perm (L.take f)
 hc : Chunked (fun x y => le x y = true) (2 * q) M
end
section
open Go.RowKit
attribute [local go_sem ↓] ld28_eq st28_eq ld26_eq
attribute [local go_sem] zero_EC cells_EV EC_size
def leE (x y : En) : Bool := !ahead y x
end
end Go.Proofs.YtalpnhfoaohhhaaGreat.K
