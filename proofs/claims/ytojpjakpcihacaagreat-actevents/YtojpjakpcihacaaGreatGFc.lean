/- Facts; act.Empty. -/
import Derived.Test.YtojpjakpcihacaaGreatGKc
import Derived.Test.YtojpjakpcihacaaGreatPLs
import Derived.Test.YtojpjakpcihacaaGreatPDk
namespace Go.Proofs.YtojpjakpcihacaaGreat
open Go.RowKit
attribute [local go_sem ↓] ldP_eq stP_eq ldFa_eq stFa_eq ldD_eq stD_eq
attribute [local go_sem] cells_PV PC_size cells_FaV FaC_size cells_RV RC_size zero_RC fold_RC

/-- facts -/
structure Fc where
  ao : Option Addr
  an : Nat
  ac : Nat
  es : List K.En
  p : Pv
  ro : Option Addr
  rn : Nat
  rc : Nat
  rs : List Rc
def mkF (f : Fc) : FacV := ⟨f.ao, f.an, f.ac, f.p.vo, f.p.vn, f.p.vc, f.p.co, f.p.cn, f.p.cc, f.ro, f.rn, f.rc⟩
structure FcOk (w : World) (f : Fc) : Prop where
  es : K.ESrc w f.ao f.an f.ac f.es
  p : PSrc w f.p
  rs : RcS w f.ro f.rn f.rc f.rs
theorem FcOk.below {w w' : World} {f : Fc} (h : FcOk w f) (hb : Below w.heap.size w w') : FcOk w' f := ⟨h.es.below hb, h.p.below hb, h.rs.below hb⟩
theorem FaBox.cs {w : World} {g : Nat} {f : Fc} (h : FaBox w g (mkF f)) : w.cell? ⟨g, 0, none⟩ = some (.slice f.ao f.an f.ac) ∧ w.cell? ⟨g, 3, none⟩ = some (.slice f.ro f.rn f.rc) := ⟨h.c0, h.c3⟩
theorem FaBox.past {w : World} {g : Nat} {f : Fc} (h : FaBox w g (mkF f)) : PAt w ⟨g, 1, none⟩ f.p := ⟨h.c1, h.c2⟩
/-- in form -/
def FormF (f : Fc) : Prop := K.okN f.es f.an = true ∧ InForm f.p.P ∧ OkR f.rs f.rn
/-- such as one act makes -/
def OneA (f : Fc) : Prop := (f.an = 0 ∧ f.rn = 0) ∨ (f.an = 1 ∧ f.rn = 0 ∧ ∃ k, LastOf f.p.P (f.es.getD 0 K.en0).rep k ∧ k < (f.es.getD 0 K.en0).num) ∨ (f.an = 0 ∧ f.rn = 1 ∧ EmptyP f.p.P)
def EvOf (f : Fc) (x : Int) : Prop := (¬ FormF f ∧ x = 1) ∨ (FormF f ∧ ¬ OneA f ∧ x = 2) ∨ (FormF f ∧ OneA f ∧ x = 0)
theorem EvOf.unique {f : Fc} {x y : Int} (h : EvOf f x) (h' : EvOf f y) : x = y := by
  rcases h with ⟨h1, rfl⟩ | ⟨h1, h2, rfl⟩ | ⟨h1, h2, rfl⟩ <;> rcases h' with ⟨g1, rfl⟩ | ⟨g1, g2, rfl⟩ | ⟨g1, g2, rfl⟩ <;> first | rfl | exact absurd h1 g1 | exact absurd g1 h1 | exact absurd h2 g2 | exact absurd g2 h2
/-- nothing said -/
def NoneF (f : Fc) : Prop := f.an = 0 ∧ f.rn = 0 ∧ EmptyP f.p.P
set_option maxRecDepth 100000 in
theorem actEmpty_any (f : Fc) (w : World) (hF : FcOk w f) : Calls Tryz.prog 10 #[FaV (mkF f)] w fun e w' => GivB w w' e (NoneF f) := by
  have HX := hide (FaBox_new w (mkF f))
  have HBK := hide (below_new w (.cells (FaC (mkF f)) 38))
  have HS := hide (hF.below HBK.out)
  clear hF
  obtain ⟨wk, hwk⟩ : ∃ wk, w.alloc (.cells (FaC (mkF f)) 38) = wk := ⟨_, rfl⟩
  obtain ⟨G, hG⟩ : ∃ G, w.heap.size = G := ⟨_, rfl⟩
  rw [hwk] at HX HBK HS
  rw [hG] at HX
  obtain ⟨c0, c3⟩ := HX.out.cs
  have lp := run_ldP HX.out.past
  have lf := run_ldFa HX.out
  by_cases h1 : f.an = 0
  · by_cases h2 : f.rn = 0
    · have H1 := hide h1
      have H2 := hide h2
      rw [h1] at c0
      rw [h2] at c3
      clear h1 h2
      go_enter Tryz.func10, Tryz.ntmps10
      go_wp2_with fail
      clear hwk hG
      refine (pastEmpty_any f.p _ HS.out.p).mono ?_
      rintro e w2 ⟨b, rfl, hb, b2⟩
      have HF : Hid (BIf b (NoneF f) ∧ Below w.heap.size w w2) := ⟨⟨fun h => ⟨H1.out, H2.out, hb.1 h⟩, fun h => hb.2 h.2.2⟩, HBK.out.trans (b2.mono HBK.out.size)⟩
      clear hb b2 c0 c3 lp lf
      cases b with
      | true =>
        go_wp2_with fail
        go_ret
        exact ⟨_, rfl, HF.out.1, HF.out.2⟩
      | false =>
        go_wp2_with fail
        go_ret
        exact ⟨_, rfl, HF.out.1, HF.out.2⟩
    · have H1 := hide h1
      have HN : Hid (¬ NoneF f) := fun h => h2 h.2.1
      rw [h1] at c0
      have h2' : ((f.rn : Int) == 0) = false := by simpa using h2
      have h2'' : (f.rn == 0) = false := by simpa using h2
      clear h1
      go_enter Tryz.func10, Tryz.ntmps10
      go_wp2_with fail
      go_ret
      exact ⟨_, rfl, BIf.no HN.out, HBK.out⟩
  · have HN : Hid (¬ NoneF f) := fun h => h1 h.1
    have h1' : ((f.an : Int) == 0) = false := by simpa using h1
    have h1'' : (f.an == 0) = false := by simpa using h1
    go_enter Tryz.func10, Tryz.ntmps10
    go_wp2_with fail
    go_ret
    exact ⟨_, rfl, BIf.no HN.out, HBK.out⟩
end Go.Proofs.YtojpjakpcihacaaGreat
