/- SLt PLs GFc EFp GOa GAe BAq -/
import Derived.Test.YtcnciccljblkfaaGreatTk
import Derived.Test.YtcnciccljblkfaaGreatEf07
import Derived.Test.YtcnciccljblkfaaGreatEf33
import Derived.Test.YtcnciccljblkfaaGreatEf10
import Derived.Test.YtcnciccljblkfaaGreatEf19
import Derived.Test.YtcnciccljblkfaaGreatEf20
import Derived.Deep.CutRange
namespace Go.Proofs.YtcnciccljblkfaaGreat
open Go.RowKit
attribute [local go_sem ↓] ldR_eq stR_eq
attribute [local go_sem] zero_RC cells_RV RC_size fold_RC
theorem take_snoc (L : List Rn) (k : Nat) (h : k < L.length) : L.take (k + 1) = L.take k ++ [L.getD k rn0] := by
 rw [List.take_succ_eq_append_getElem h]; simp [List.getD, h]
set_option maxRecDepth 100000 in
set_option maxHeartbeats 4000000 in
theorem last_any (ao : Option Addr) (n cap : Nat) (A : List Rn) (w : World) (hS : RSrc w ao n cap A) :
  Calls Tryz.prog 84 #[.slice ao n cap] w fun e w' => ∃ k, e = .returned (.int .i64 k) ∧ Most A k ∧ Below w.heap.size w w' := by
 have HS := hide hS
 clear hS
 go_enter Tryz.func84, Tryz.ntmps84
 go_wp2_with fail
 refine (norm_any ao n cap A _ HS.out).mono ?_
 rintro e w1 ⟨a1, n1, c1, X, rfl, S1, b1, p1⟩
 have HS1 := hide S1
 have HP1 := hide p1
 have HB1 := hide b1
 have HL : Hid (X.length = n1) := S1.len
 have hn := S1.big
 clear S1 b1 p1
 go_wp2_with fail
 go_loopw [3, 9] (fun v i wr => ∃ (k : Nat) (z : Int), k ≤ n1 ∧ v = .int .i64 z ∧ i = .int .i64 k ∧ Hid (Most (X.take k) z ∧ Below w1.heap.size w1 wr)) (fun _ i _ => n1 - (intOf i).toNat)
 case atStart => exact ⟨0, 0, Nat.zero_le _, rfl, rfl, Most.start, Below.refl _ _⟩
 case round =>
  obtain ⟨k, z, hk, rfl, rfl, H⟩ := hrel
  rename World => w4
  by_cases hlt : k < n1
  ·obtain ⟨ad, rfl, A0⟩ := (HS1.out.below H.out.2).at k hlt
   have hld := run_ldR A0
   obtain ⟨r, Hr⟩ : ∃ r, Hid (X.getD k rn0 = r) := ⟨_, rfl⟩
   rw [Hr.out] at hld
   have HT := hide (take_snoc X k (by rw [HL.out]; exact hlt))
   rw [Hr.out] at HT
   have HM : Hid (Most (X.take (k + 1)) r.hi) := by
    have := form_take (k + 1) HP1.out.1
    rw [HT.out] at this
    rw [HT.out]; exact Most.last this
   obtain ⟨w5, hst, X5, B5, Z5⟩ := made w4 r w4.heap.size rfl
   have HB5 := hide (H.out.2.trans (B5.mono H.out.2.size))
   have k1 : w5.cell? ⟨w4.heap.size, 1, none⟩ = some (.int .i64 r.hi) := X5.at.c1
   clear A0 X5 B5 Z5
   go_wp2_with fail
   go_roundw
   case rel => exact ⟨k + 1, r.hi, by omega, rfl, by go_num, HM.out, HB5.out⟩
   case measure => simp [intOf]; omega
  ·obtain rfl : k = n1 := by omega
   have HF : Hid (Most A z) := by
    have := H.out.1
    rw [List.take_of_length_le (by rw [HL.out]; exact Nat.le_refl _)] at this
    exact this.congr HP1.out.2
   have HBF := hide (HB1.out.trans (H.out.2.mono HB1.out.size))
   go_wp2_with fail
   go_ret
   exact ⟨_, rfl, HF.out, HBF.out⟩
end Go.Proofs.YtcnciccljblkfaaGreat
namespace Go.Proofs.YtcnciccljblkfaaGreat
open Go.RowKit
attribute [local go_sem ↓] ldP_eq stP_eq ldA_eq stA_eq ixA_eq
attribute [local go_sem] zeros_SA cells_SAv zero_PC cells_PV fold_PC PC_size fold_PC1
def LastOf (P : Pst) (r : Int) (k : Int) : Prop := (V.isR r = true ∧ Most (runsAt P r.toNat) k) ∨ (V.isR r = false ∧ k = 0)
theorem LastOf.unique {P : Pst} {r k l : Int} (h : LastOf P r k) (h' : LastOf P r l) : k = l := by
 rcases h with ⟨h1, h2⟩ | ⟨h1, h2⟩ <;> rcases h' with ⟨g1, g2⟩ | ⟨g1, g2⟩
 ·exact h2.unique g2
 ·rw [h1] at g1; cases g1
 ·rw [h1] at g1; cases g1
 ·rw [h2, g2]
def GivesZ (w w' : World) (e : Ending) (P : Int → Prop) : Prop := ∃ k, e = .returned (.int .i64 k) ∧ P k ∧ Below w.heap.size w w'
set_option maxRecDepth 100000 in
theorem pastLast_any (a : Pv) (r : Int) (w : World) (hS : PSrc w a) : Calls Tryz.prog 50 #[PV a, .int .i64 r] w fun e w' => GivesZ w w' e (LastOf a.P r) := by
 have b1 := below_new w (.cells (PC a) 26)
 have HX := hide (pbox_new w a)
 have HBK := hide b1
 have HS := hide (hS.below b1)
 have l0 := run_ldP HX.out.at
 clear hS b1
 obtain ⟨wk, hwk⟩ : ∃ wk, w.alloc (.cells (PC a) 26) = wk := ⟨_, rfl⟩
 rw [hwk] at HBK HX HS l0
 obtain ⟨x, Hx⟩ : ∃ x, Hid (V.isR r = x) := ⟨_, rfl⟩
 cases x with
 | false =>
  have HF : Hid (LastOf a.P r 0) := Or.inr ⟨Hx.out, rfl⟩
  go_enter Tryz.func50, Tryz.ntmps50
  go_wp2_with (go_at_call 47; refine (isRepP_any r _).mono ?_; rintro e w' ⟨rfl, rfl⟩; rw [Hx.out])
  go_ret
  exact ⟨0, rfl, HF.out, HBK.out⟩
 | true =>
  have hr : 0 ≤ r ∧ r < 16 := by have := Hx.out; simp [V.isR] at this; exact this
  obtain ⟨k, rfl⟩ : ∃ k : Nat, r = k := ⟨r.toNat, by omega⟩
  have hk : k < 16 := by omega
  have b2 := below_new wk (.cells (PC a) 26)
  have HR := hide (prow_one wk a HS.out)
  have HWT := hide (wt_one HS.out)
  have HB2 := hide (HBK.out.trans (b2.mono HBK.out.size))
  clear b2
  go_enter Tryz.func50, Tryz.ntmps50
  go_wp2_with (go_at_call 47; refine (isRepP_any _ _).mono ?_; rintro e w' ⟨rfl, rfl⟩; rw [Hx.out])
  clear hwk
  refine (setsOf_any _ 1 1 [a] _ HR.out HWT.out (by omega)).mono ?_
  rintro e w2 ⟨F, rfl, R2, b3⟩
  have HR2 := hide R2
  have HB3 := hide (HB2.out.trans (b3.mono HB2.out.size))
  have hix : (ixA (SAv F) (.int .i64 (k : Int))).run Tryz.prog w2 = _ := run_idxA F k hk w2
  clear R2 b3 l0
  go_wp2_with fail
  refine (last_any _ _ _ _ _ (HR2.out.src k hk)).mono ?_
  rintro e w3 ⟨z, rfl, hz, b4⟩
  have HZ : Hid (LastOf a.P k z) := by
   left
   refine ⟨Hx.out, ?_⟩
   rw [Int.toNat_natCast, ← runsOf_one a k, ← HR2.out.eq k hk]
   exact hz
  have HB4 := hide (HB3.out.trans (b4.mono HB3.out.size))
  clear hz b4 hix
  go_wp2_with fail
  go_ret
  exact ⟨z, rfl, HZ.out, HB4.out⟩
end Go.Proofs.YtcnciccljblkfaaGreat
namespace Go.Proofs.YtcnciccljblkfaaGreat
open Go.RowKit
attribute [local go_sem ↓] ldP_eq stP_eq ldFa_eq stFa_eq ldD_eq stD_eq
attribute [local go_sem] cells_PV PC_size cells_FaV FaC_size cells_RV RC_size zero_RC fold_RC
structure Fc where
 ao : Option Addr
 an : Nat
 ac : Nat
 es : List K.En
 p : Pv
 ro : Option Addr
 rn : Nat
 rc : Nat
 rs : List Rc
def mkF (f : Fc) : FacV := ⟨f.ao, f.an, f.ac, f.p.vo, f.p.vn, f.p.vc, f.p.co, f.p.cn, f.p.cc, f.ro, f.rn, f.rc⟩
structure FcOk (w : World) (f : Fc) : Prop where
 es : K.ESrc w f.ao f.an f.ac f.es
 p : PSrc w f.p
 rs : RcS w f.ro f.rn f.rc f.rs
theorem FcOk.below {w w' : World} {f : Fc} (h : FcOk w f) (hb : Below w.heap.size w w') : FcOk w' f := ⟨h.es.below hb, h.p.below hb, h.rs.below hb⟩
theorem FaBox.cs {w : World} {g : Nat} {f : Fc} (h : FaBox w g (mkF f)) : w.cell? ⟨g, 0, none⟩ = some (.slice f.ao f.an f.ac) ∧ w.cell? ⟨g, 3, none⟩ = some (.slice f.ro f.rn f.rc) := ⟨h.c0, h.c3⟩
theorem FaBox.past {w : World} {g : Nat} {f : Fc} (h : FaBox w g (mkF f)) : PAt w ⟨g, 1, none⟩ f.p := ⟨h.c1, h.c2⟩
def FormF (f : Fc) : Prop := K.okN f.es f.an = true ∧ InForm f.p.P ∧ OkR f.rs f.rn
def OneA (f : Fc) : Prop := (f.an = 0 ∧ f.rn = 0) ∨ (f.an = 1 ∧ f.rn = 0 ∧ ∃ k, LastOf f.p.P (f.es.getD 0 K.en0).rep k ∧ k < (f.es.getD 0 K.en0).num) ∨ (f.an = 0 ∧ f.rn = 1 ∧ EmptyP f.p.P)
def EvOf (f : Fc) (x : Int) : Prop := (¬ FormF f ∧ x = 1) ∨ (FormF f ∧ ¬ OneA f ∧ x = 2) ∨ (FormF f ∧ OneA f ∧ x = 0)
theorem EvOf.unique {f : Fc} {x y : Int} (h : EvOf f x) (h' : EvOf f y) : x = y := by
 rcases h with ⟨h1, rfl⟩ | ⟨h1, h2, rfl⟩ | ⟨h1, h2, rfl⟩ <;> rcases h' with ⟨g1, rfl⟩ | ⟨g1, g2, rfl⟩ | ⟨g1, g2, rfl⟩ <;> first | rfl | exact absurd h1 g1 | exact absurd g1 h1 | exact absurd h2 g2 | exact absurd g2 h2
def NoneF (f : Fc) : Prop := f.an = 0 ∧ f.rn = 0 ∧ EmptyP f.p.P
end Go.Proofs.YtcnciccljblkfaaGreat
namespace Go.Proofs.YtcnciccljblkfaaGreat
open Go.RowKit
def EfK (L : List K.En) (f : Fc) (x : K.En) : Prop := (x ∈ L ∧ inB f.p.P x = false ∧ freeB f.rs x = true) ∨ x ∈ f.es
def EfC (L : List K.En) (f : Fc) : Prop := ∃ a ∈ f.es, ∃ y ∈ L, K.sameDot y a = true
def EfD (L : List K.En) (f : Fc) (Z : List K.En) (er : Int) : Prop := (¬ K.chk L = 0 ∧ Z = [] ∧ er = 1) ∨ (K.chk L = 0 ∧ EvOf f er ∧ er ≠ 0 ∧ Z = []) ∨ (K.chk L = 0 ∧ EvOf f 0 ∧ EfC L f ∧ Z = [] ∧ er = 10) ∨ (K.chk L = 0 ∧ EvOf f 0 ∧ ¬ EfC L f ∧ er = 0 ∧ K.Asc Z ∧ ∀ x, x ∈ Z ↔ EfK L f x)
theorem EfD.one {L : List K.En} {f : Fc} {Z Z' : List K.En} {er er' : Int} (h : EfD L f Z er) (h' : EfD L f Z' er') : Z = Z' ∧ er = er' := by
 rcases h with ⟨h1, rfl, rfl⟩ | ⟨h1, h2, h3, rfl⟩ | ⟨h1, h2, h3, rfl, rfl⟩ | ⟨h1, h2, h3, rfl, h4, h5⟩ <;> rcases h' with ⟨k1, rfl, rfl⟩ | ⟨k1, k2, k3, rfl⟩ | ⟨k1, k2, k3, rfl, rfl⟩ | ⟨k1, k2, k3, rfl, k4, k5⟩
 ·exact ⟨rfl, rfl⟩
 ·exact absurd k1 h1
 ·exact absurd k1 h1
 ·exact absurd k1 h1
 ·exact absurd h1 k1
 ·exact ⟨rfl, h2.unique k2⟩
 ·exact absurd (h2.unique k2) h3
 ·exact absurd (h2.unique k2) h3
 ·exact absurd h1 k1
 ·exact absurd (k2.unique h2) k3
 ·exact ⟨rfl, rfl⟩
 ·exact absurd h3 k3
 ·exact absurd h1 k1
 ·exact absurd (k2.unique h2) k3
 ·exact absurd k3 h3
 ·exact ⟨K.asc_unique h4 k4 (fun x => (h5 x).trans (k5 x).symm), rfl⟩
def EfA (w w' : World) (x : Ending) (L : List K.En) (f : Fc) : Prop := ∃ a n c Z er, x = .returned (.tuple #[.slice a n c, .int .i64 er]) ∧ K.ESrc w' a n c Z ∧ Below w.heap.size w w' ∧ EfD L f Z er
theorem ev_form {f : Fc} (h : EvOf f 0) : FormF f ∧ OneA f := by
 rcases h with ⟨-, h⟩ | ⟨-, -, h⟩ | ⟨h1, h2, -⟩
 ·exact absurd h (by decide)
 ·exact absurd h (by decide)
 ·exact ⟨h1, h2⟩
theorem one_le {f : Fc} (h : OneA f) : f.an ≤ 1 ∧ f.rn ≤ 1 := by
 rcases h with ⟨h1, h2⟩ | ⟨h1, h2, -⟩ | ⟨h1, h2, -⟩ <;> omega
theorem chk_of {L : List K.En} {n : Nat} (hl : L.length = n) (h : K.okN L n = true) : K.chk L = 0 := (ok_chk hl).2 h
theorem filter_chkE {L : List K.En} {p : K.En → Bool} (h : K.chk L = 0) : K.chk (L.filter p) = 0 :=
 K.chk_asc ((K.chk_asc' h).filter p) (fun e he => chk_ce h e (List.mem_filter.1 he).1)
theorem eff_union {L U : List K.En} {f : Fc} {er : Int} (hL : K.chk L = 0) (hf : K.chk f.es = 0) (hC : ¬ EfC L f) (h : K.UnionOf ((L.filter (pkB f.p.P false)).filter (freeB f.rs)) f.es U er) : er = 0 ∧ K.Asc U ∧ ∀ x, x ∈ U ↔ EfK L f x := by
 have hm : ∀ x, x ∈ (L.filter (pkB f.p.P false)).filter (freeB f.rs) ↔ x ∈ L ∧ inB f.p.P x = false ∧ freeB f.rs x = true := fun x => by
  rw [List.mem_filter, List.mem_filter]
  have : pkB f.p.P false x = true ↔ inB f.p.P x = false := by unfold pkB; cases inB f.p.P x <;> decide
  rw [this, and_assoc]
 have hAs := K.chk_asc' (filter_chkE (p := freeB f.rs) (filter_chkE (p := pkB f.p.P false) hL))
 have hAf := K.chk_asc' hf
 rcases h with ⟨hno, -⟩ | ⟨-, ⟨hcl, -, -⟩ | ⟨-, h0, h1, h2⟩⟩
 ·exact absurd ⟨filter_chkE (filter_chkE hL), hf⟩ hno
 ·exfalso
  obtain ⟨x, hx, y, hy, hs, hne⟩ := hcl
  rcases List.mem_append.1 hx with hx | hx <;> rcases List.mem_append.1 hy with hy | hy
  ·exact K.asc_noclash hAs (fun _ => Iff.rfl) ⟨x, hx, y, hy, hs, hne⟩
  ·exact hC ⟨y, hy, x, ((hm x).1 hx).1, hs⟩
  ·exact hC ⟨x, hx, y, ((hm y).1 hy).1, by rw [K.same_symm]; exact hs⟩
  ·exact K.asc_noclash hAf (fun _ => Iff.rfl) ⟨x, hx, y, hy, hs, hne⟩
 ·refine ⟨h0, h1, fun x => ?_⟩
  rw [h2 x, List.mem_append, hm x]
  rfl
end Go.Proofs.YtcnciccljblkfaaGreat
namespace Go.Proofs.YtcnciccljblkfaaGreat
open Go.RowKit
attribute [local go_sem ↓] ldP_eq stP_eq ldFa_eq stFa_eq ldD_eq stD_eq
attribute [local go_sem] cells_PV PC_size cells_FaV FaC_size cells_RV RC_size zero_RC fold_RC
set_option maxRecDepth 100000 in
set_option maxHeartbeats 1600000 in
theorem isOneActs_a (f : Fc) (w : World) (hF : FcOk w f) (han : f.an = 0) (hrn : f.rn = 0) : Calls Tryz.prog 23 #[FaV (mkF f)] w fun e w' => GivB w w' e (OneA f) := by
 have HX := hide (FaBox_new w (mkF f))
 have HBK := hide (below_new w (.cells (FaC (mkF f)) 29))
 have HS := hide (hF.below HBK.out)
 clear hF
 obtain ⟨wk, hwk⟩ : ∃ wk, w.alloc (.cells (FaC (mkF f)) 29) = wk := ⟨_, rfl⟩
 obtain ⟨G, hG⟩ : ∃ G, w.heap.size = G := ⟨_, rfl⟩
 rw [hwk] at HX HBK HS
 rw [hG] at HX
 obtain ⟨c0, c3⟩ := HX.out.cs
 have lp := run_ldP HX.out.past
 have lf := run_ldFa HX.out
 have Han := hide han
 rw [han] at c0
 have Hrn := hide hrn
 rw [hrn] at c3
 clear han hrn
 have HY : Hid (OneA f) := .inl ⟨Han.out, Hrn.out⟩
 go_enter Tryz.func23, Tryz.ntmps23
 go_wp2_with fail
 go_ret
 exact ⟨_, rfl, BIf.yes HY.out, HBK.out⟩
set_option maxRecDepth 100000 in
set_option maxHeartbeats 1600000 in
theorem isOneActs_b (f : Fc) (w : World) (hF : FcOk w f) (han : f.an = 0) (hrn : 2 ≤ f.rn) : Calls Tryz.prog 23 #[FaV (mkF f)] w fun e w' => GivB w w' e (OneA f) := by
 have HX := hide (FaBox_new w (mkF f))
 have HBK := hide (below_new w (.cells (FaC (mkF f)) 29))
 have HS := hide (hF.below HBK.out)
 clear hF
 obtain ⟨wk, hwk⟩ : ∃ wk, w.alloc (.cells (FaC (mkF f)) 29) = wk := ⟨_, rfl⟩
 obtain ⟨G, hG⟩ : ∃ G, w.heap.size = G := ⟨_, rfl⟩
 rw [hwk] at HX HBK HS
 rw [hG] at HX
 obtain ⟨c0, c3⟩ := HX.out.cs
 have lp := run_ldP HX.out.past
 have lf := run_ldFa HX.out
 have Han := hide han
 rw [han] at c0
 have Hrn := hide hrn
 have zrn1 : ((f.rn : Int) == 0) = false := by have := Hrn.out; simp; omega
 have zrn2 : (f.rn == 0) = false := by have := Hrn.out; simp; omega
 have zrn3 : ((f.rn : Int) == 1) = false := by have := Hrn.out; simp; omega
 have zrn4 : (f.rn == 1) = false := by have := Hrn.out; simp; omega
 clear han hrn
 have HN : Hid (¬ OneA f) := fun h => by rcases h with ⟨h1, h2⟩ | ⟨h1, h2, _⟩ | ⟨h1, h2, _⟩ <;> (have := Hrn.out; omega)
 go_enter Tryz.func23, Tryz.ntmps23
 go_wp2_with fail
 go_ret
 exact ⟨_, rfl, BIf.no HN.out, HBK.out⟩
set_option maxRecDepth 100000 in
set_option maxHeartbeats 1600000 in
theorem isOneActs_c (f : Fc) (w : World) (hF : FcOk w f) (han : f.an = 1) (hrn : 1 ≤ f.rn) : Calls Tryz.prog 23 #[FaV (mkF f)] w fun e w' => GivB w w' e (OneA f) := by
 have HX := hide (FaBox_new w (mkF f))
 have HBK := hide (below_new w (.cells (FaC (mkF f)) 29))
 have HS := hide (hF.below HBK.out)
 clear hF
 obtain ⟨wk, hwk⟩ : ∃ wk, w.alloc (.cells (FaC (mkF f)) 29) = wk := ⟨_, rfl⟩
 obtain ⟨G, hG⟩ : ∃ G, w.heap.size = G := ⟨_, rfl⟩
 rw [hwk] at HX HBK HS
 rw [hG] at HX
 obtain ⟨c0, c3⟩ := HX.out.cs
 have lp := run_ldP HX.out.past
 have lf := run_ldFa HX.out
 have Han := hide han
 rw [han] at c0
 have Hrn := hide hrn
 have zrn1 : ((f.rn : Int) == 0) = false := by have := Hrn.out; simp; omega
 have zrn2 : (f.rn == 0) = false := by have := Hrn.out; simp; omega
 clear han hrn
 have HN : Hid (¬ OneA f) := fun h => by rcases h with ⟨h1, h2⟩ | ⟨h1, h2, _⟩ | ⟨h1, h2, _⟩ <;> (have := Hrn.out; have := Han.out; omega)
 go_enter Tryz.func23, Tryz.ntmps23
 go_wp2_with fail
 go_ret
 exact ⟨_, rfl, BIf.no HN.out, HBK.out⟩
set_option maxRecDepth 100000 in
set_option maxHeartbeats 1600000 in
theorem isOneActs_d (f : Fc) (w : World) (hF : FcOk w f) (han : 2 ≤ f.an) : Calls Tryz.prog 23 #[FaV (mkF f)] w fun e w' => GivB w w' e (OneA f) := by
 have HX := hide (FaBox_new w (mkF f))
 have HBK := hide (below_new w (.cells (FaC (mkF f)) 29))
 have HS := hide (hF.below HBK.out)
 clear hF
 obtain ⟨wk, hwk⟩ : ∃ wk, w.alloc (.cells (FaC (mkF f)) 29) = wk := ⟨_, rfl⟩
 obtain ⟨G, hG⟩ : ∃ G, w.heap.size = G := ⟨_, rfl⟩
 rw [hwk] at HX HBK HS
 rw [hG] at HX
 obtain ⟨c0, c3⟩ := HX.out.cs
 have lp := run_ldP HX.out.past
 have lf := run_ldFa HX.out
 have Han := hide han
 have zan1 : ((f.an : Int) == 0) = false := by have := Han.out; simp; omega
 have zan2 : (f.an == 0) = false := by have := Han.out; simp; omega
 have zan3 : ((f.an : Int) == 1) = false := by have := Han.out; simp; omega
 have zan4 : (f.an == 1) = false := by have := Han.out; simp; omega
 clear han
 have HN : Hid (¬ OneA f) := fun h => by rcases h with ⟨h1, h2⟩ | ⟨h1, h2, _⟩ | ⟨h1, h2, _⟩ <;> (have := Han.out; omega)
 go_enter Tryz.func23, Tryz.ntmps23
 go_wp2_with fail
 go_ret
 exact ⟨_, rfl, BIf.no HN.out, HBK.out⟩
set_option maxRecDepth 100000 in
set_option maxHeartbeats 1600000 in
theorem isOneActs_e (f : Fc) (w : World) (hF : FcOk w f) (han : f.an = 0) (hrn : f.rn = 1) : Calls Tryz.prog 23 #[FaV (mkF f)] w fun e w' => GivB w w' e (OneA f) := by
 have HX := hide (FaBox_new w (mkF f))
 have HBK := hide (below_new w (.cells (FaC (mkF f)) 29))
 have HS := hide (hF.below HBK.out)
 clear hF
 obtain ⟨wk, hwk⟩ : ∃ wk, w.alloc (.cells (FaC (mkF f)) 29) = wk := ⟨_, rfl⟩
 obtain ⟨G, hG⟩ : ∃ G, w.heap.size = G := ⟨_, rfl⟩
 rw [hwk] at HX HBK HS
 rw [hG] at HX
 obtain ⟨c0, c3⟩ := HX.out.cs
 have lp := run_ldP HX.out.past
 have lf := run_ldFa HX.out
 have Han := hide han
 rw [han] at c0
 have Hrn := hide hrn
 rw [hrn] at c3
 clear han hrn
 go_enter Tryz.func23, Tryz.ntmps23
 go_wp2_with fail
 clear hwk hG
 refine (pastEmpty_any f.p _ HS.out.p).mono ?_
 rintro e w2 ⟨b, rfl, hb, b2⟩
 have HF : Hid (BIf b (OneA f) ∧ Below w.heap.size w w2) := ⟨⟨fun h => .inr (.inr ⟨Han.out, Hrn.out, hb.1 h⟩), fun h => by
  have h5 := Han.out
  have h6 := Hrn.out
  rcases h with ⟨h1, h2⟩ | ⟨h1, h2, _⟩ | ⟨h1, h2, h3⟩
  ·omega
  ·omega
  ·exact hb.2 h3⟩, HBK.out.trans (b2.mono HBK.out.size)⟩
 clear hb b2 c0 c3 lp lf
 cases b with
 | true =>
  go_wp2_with fail
  go_ret
  exact ⟨_, rfl, HF.out.1, HF.out.2⟩
 | false =>
  go_wp2_with fail
  go_ret
  exact ⟨_, rfl, HF.out.1, HF.out.2⟩
set_option maxRecDepth 100000 in
set_option maxHeartbeats 1600000 in
theorem isOneActs_f (f : Fc) (w : World) (hF : FcOk w f) (han : f.an = 1) (hrn : f.rn = 0) : Calls Tryz.prog 23 #[FaV (mkF f)] w fun e w' => GivB w w' e (OneA f) := by
 have HX := hide (FaBox_new w (mkF f))
 have HBK := hide (below_new w (.cells (FaC (mkF f)) 29))
 have HS := hide (hF.below HBK.out)
 clear hF
 obtain ⟨wk, hwk⟩ : ∃ wk, w.alloc (.cells (FaC (mkF f)) 29) = wk := ⟨_, rfl⟩
 obtain ⟨G, hG⟩ : ∃ G, w.heap.size = G := ⟨_, rfl⟩
 rw [hwk] at HX HBK HS
 rw [hG] at HX
 obtain ⟨c0, c3⟩ := HX.out.cs
 have lp := run_ldP HX.out.past
 have lf := run_ldFa HX.out
 have Han := hide han
 rw [han] at c0
 have Hrn := hide hrn
 rw [hrn] at c3
 clear han hrn
 obtain ⟨ad, e1, A0⟩ := HS.out.es.at 0 (by have := Han.out; omega)
 obtain ⟨x, Hx⟩ : ∃ x, Hid (f.es.getD 0 K.en0 = x) := ⟨_, rfl⟩
 rw [Hx.out, Nat.zero_mul, K.add_zero] at A0
 have R0 : RnAt wk ad ⟨x.rep, x.num⟩ := ⟨A0.c0, A0.c1⟩
 have ld := run_ldD R0
 rw [e1] at c0
 obtain ⟨gd, hgd⟩ : ∃ g, wk.heap.size = g := ⟨_, rfl⟩
 obtain ⟨w1, hst, X1, B1, -⟩ := madeD wk ⟨x.rep, x.num⟩ gd hgd
 have HX1 := hide X1
 have HB1 := hide (HBK.out.trans (B1.mono HBK.out.size))
 have HP1 := hide (HS.out.p.below B1)
 have HF1 := hide (HX.out.below B1)
 clear X1 B1 A0 R0
 go_enter Tryz.func23, Tryz.ntmps23
 go_wp2_with fail
 clear hwk hG hst ld c0 c3 lp lf hgd
 refine wp_region_held_drew (S := fun v => (ldP (.pointer (some ⟨G, 1, none⟩))).run Tryz.prog v = .ok (PV f.p) v ∧ v.cell? ⟨gd, 0, none⟩ = some (.int .i64 x.rep) ∧ v.cell? ⟨gd, 1, none⟩ = some (.int .i64 x.num)) (by kernel_rfl) (⟨run_ldP (HF1.out.below (below_drew1 w1)).past, (HX1.out.below (below_drew1 w1)).at.c0, (HX1.out.below (below_drew1 w1)).at.c1⟩) (fun hHeld => ?_)
 refine wTk 0 ⟨some 31, .fieldAddr 29 (.tmp 1) 1, 0, "event.go:34", #[], none⟩ rfl ?_
 refine wTk 1 ⟨some 32, .load 26 (.tmp 31), 26, "event.go:34", #[⟨0, .data⟩], none⟩ rfl ?_
 refine wTk 2 ⟨some 33, .fieldAddr 34 (.tmp 3) 0, 0, "event.go:34", #[], none⟩ rfl ?_
 refine wTk 3 ⟨some 34, .load 3 (.tmp 33), 3, "event.go:34", #[⟨2, .data⟩], none⟩ rfl ?_
 refine wTk 5 ⟨some 36, .fieldAddr 34 (.tmp 3) 1, 0, "event.go:34", #[], none⟩ rfl ?_
 refine wTk 6 ⟨some 37, .load 3 (.tmp 36), 3, "event.go:34", #[⟨5, .data⟩], none⟩ rfl ?_
 refine wpAnyH_ready (rs := [4]) (by kernel_rfl) (by simp) (.cons rfl (fun K hK => ?_) .nil)
 go_simp
 go_wp2_with fail
 refine (pastLast_any f.p x.rep _ (HP1.out.below (below_drew1 w1))).mono ?_
 rintro e w2 ⟨k, rfl, hk, b2⟩
 have hB2 : Below w1.heap.size w1 w2 := (below_drew1 w1).trans b2
 have HF : Hid (BIf (decide (k < x.num)) (OneA f) ∧ Below w.heap.size w w2) := by
  refine ⟨⟨fun h => .inr (.inl ⟨Han.out, Hrn.out, k, ?_, ?_⟩), fun h => ?_⟩, HB1.out.trans (hB2.mono HB1.out.size)⟩
  ·rw [Hx.out]; exact hk
  ·rw [Hx.out]; exact of_decide_eq_true h
  ·have h5 := Han.out
   have h6 := Hrn.out
   rcases h with ⟨h1, h2⟩ | ⟨h1, h2, k2, h3, h4⟩ | ⟨h1, h2, h3⟩
   ·omega
   ·rw [Hx.out] at h3 h4
    rw [show k = k2 from LastOf.unique hk h3]
    exact decide_eq_true h4
   ·omega
 refine hK.out _ _ (⟨run_ldP (HF1.out.below (hB2)).past, (HX1.out.below (hB2)).at.c0, (HX1.out.below (hB2)).at.c1⟩) (fun hHeld => ?_)
 clear hK K b2 hk hB2
 refine wTk 7 ⟨some 38, .binOp .lss 3 (.tmp 35) (.tmp 37) 3, 4, "event.go:34", #[⟨4, .data⟩, ⟨6, .data⟩], none⟩ rfl ?_
 refine wTk 8 ⟨some 2, .assign (.tmp 38), 4, "event.go:34", #[⟨7, .data⟩, ⟨4, .chain⟩, ⟨0, .phase⟩, ⟨1, .phase⟩, ⟨2, .phase⟩, ⟨3, .phase⟩, ⟨4, .phase⟩, ⟨5, .phase⟩, ⟨6, .phase⟩, ⟨7, .phase⟩], none⟩ rfl ?_
 refine wpAnyH_done (by kernel_rfl) ?_ _
 clear hHeld
 go_wp2_with fail
 go_ret
 exact ⟨_, rfl, HF.out.1, HF.out.2⟩
theorem isOneActs_any (f : Fc) (w : World) (hF : FcOk w f) : Calls Tryz.prog 23 #[FaV (mkF f)] w fun e w' => GivB w w' e (OneA f) := by
 by_cases h0 : f.an = 0
 ·by_cases k0 : f.rn = 0
  ·exact isOneActs_a f w hF h0 k0
  ·by_cases k1 : f.rn = 1
   ·exact isOneActs_e f w hF h0 k1
   ·exact isOneActs_b f w hF h0 (by omega)
 ·by_cases h1 : f.an = 1
  ·by_cases k0 : f.rn = 0
   ·exact isOneActs_f f w hF h1 k0
   ·exact isOneActs_c f w hF h1 (by omega)
  ·exact isOneActs_d f w hF (by omega)
end Go.Proofs.YtcnciccljblkfaaGreat
namespace Go.Proofs.YtcnciccljblkfaaGreat
open Go.RowKit
attribute [local go_sem ↓] ldP_eq stP_eq ldFa_eq stFa_eq ldD_eq stD_eq
attribute [local go_sem] cells_PV PC_size cells_FaV FaC_size cells_RV RC_size zero_RC fold_RC
theorem chk_no {L : List K.En} {n : Nat} (hl : L.length = n) (h : K.okN L n = false) : K.chk L = 1 := by unfold K.chk; rw [hl, h]; rfl
theorem chk_yes {L : List K.En} {n : Nat} (hl : L.length = n) (h : K.okN L n = true) : K.chk L = 0 := by unfold K.chk; rw [hl, h]; rfl
set_option maxRecDepth 100000 in
set_option maxHeartbeats 1600000 in
theorem actEvent_any (f : Fc) (w : World) (hF : FcOk w f) : Calls Tryz.prog 8 #[FaV (mkF f)] w fun e w' => GivesK w w' e (EvOf f) := by
 have HX := hide (FaBox_new w (mkF f))
 have HBK := hide (below_new w (.cells (FaC (mkF f)) 29))
 have HS := hide (hF.below HBK.out)
 clear hF
 obtain ⟨wk, hwk⟩ : ∃ wk, w.alloc (.cells (FaC (mkF f)) 29) = wk := ⟨_, rfl⟩
 obtain ⟨G, hG⟩ : ∃ G, w.heap.size = G := ⟨_, rfl⟩
 rw [hwk] at HX HBK HS
 rw [hG] at HX
 obtain ⟨c0, c3⟩ := HX.out.cs
 have lp := run_ldP HX.out.past
 have lf := run_ldFa HX.out
 go_enter Tryz.func8, Tryz.ntmps8
 go_wp2_with fail
 clear hwk hG
 refine (K.lcheck_any f.ao f.an f.ac f.es _ HS.out.es).mono ?_
 rintro e w2 ⟨rfl, b2⟩
 have HB2 := hide (HBK.out.trans (b2.mono HBK.out.size))
 have HX2 := hide (HX.out.below b2)
 have HS2 := hide (HS.out.below b2)
 clear b2 c0 c3 lp lf HX HS HBK
 cases hc : K.okN f.es f.an with
 | false =>
  rw [chk_no HS2.out.es.1 hc]
  have HE : Hid (EvOf f 1) := .inl ⟨(fun h => by have h1 := h.1; rw [hc] at h1; cases h1), rfl⟩
  clear hc
  go_wp2_with fail
  go_ret
  exact ⟨_, rfl, HE.out, HB2.out⟩
 | true =>
  rw [chk_yes HS2.out.es.1 hc]
  have HC := hide hc
  have lp := run_ldP HX2.out.past
  clear hc
  go_wp2_with fail
  refine (isNormP_any f.p _ HS2.out.p).mono ?_
  rintro e w3 ⟨b, rfl, hb, b3⟩
  have HB3 := hide (HB2.out.trans (b3.mono HB2.out.size))
  have HX3 := hide (HX2.out.below b3)
  have HS3 := hide (HS2.out.below b3)
  clear b3 lp HX2 HS2 HB2
  cases b with
  | false =>
   have HE : Hid (EvOf f 1) := .inl ⟨fun h => (by have := hb.out.2 h.2.1; cases this), rfl⟩
   clear hb
   go_wp2_with fail
   go_ret
   exact ⟨_, rfl, HE.out, HB3.out⟩
  | true =>
   have HI : Hid (InForm f.p.P) := hb.out.1 rfl
   have c3 := HX3.out.cs.2
   clear hb
   go_wp2_with fail
   refine (keepCheck_any f.ro f.rn f.rc f.rs _ HS3.out.rs).mono ?_
   rintro e w4 ⟨x, rfl, hx, b4⟩
   have HB4 := hide (HB3.out.trans (b4.mono HB3.out.size))
   have HX4 := hide (HX3.out.below b4)
   have HS4 := hide (HS3.out.below b4)
   clear b4 c3 HX3 HS3 HB3
   rcases hx with ⟨rfl, hr⟩ | ⟨rfl, hr⟩
   ·have HFo : Hid (FormF f) := ⟨HC.out, HI.out, hr⟩
    have lf := run_ldFa HX4.out
    clear hr
    go_wp2_with fail
    refine (isOneActs_any f _ HS4.out).mono ?_
    rintro e w5 ⟨b, rfl, hb, b5⟩
    have HB5 := hide (HB4.out.trans (b5.mono HB4.out.size))
    clear b5 lf
    cases b with
    | true =>
     have HE : Hid (EvOf f 0) := .inr (.inr ⟨HFo.out, hb.out.1 rfl, rfl⟩)
     clear hb
     go_wp2_with fail
     go_ret
     exact ⟨_, rfl, HE.out, HB5.out⟩
    | false =>
     have HE : Hid (EvOf f 2) := .inr (.inl ⟨HFo.out, fun h => (by have := hb.out.2 h; cases this), rfl⟩)
     clear hb
     go_wp2_with fail
     go_ret
     exact ⟨_, rfl, HE.out, HB5.out⟩
   ·have HE : Hid (EvOf f 1) := .inl ⟨fun h => hr h.2.2, rfl⟩
    clear hr
    go_wp2_with fail
    go_ret
    exact ⟨_, rfl, HE.out, HB4.out⟩
end Go.Proofs.YtcnciccljblkfaaGreat
namespace Go.Proofs.YtcnciccljblkfaaGreat
open Go.RowKit Go.Maps Go.Sort
attribute [local go_sem ↓] ldP_eq stP_eq ldRe_eq stRe_eq
attribute [local go_sem] cells_ReV ReC_size zero_ReC
theorem nodup_len {α : Type} [DecidableEq α] : ∀ (l m : List α), l.Nodup → (∀ x ∈ l, x ∈ m) → l.length ≤ m.length
 | [], _, _, _ => Nat.zero_le _
 | x :: l, m, hn, hs => by
  have h1 := List.nodup_cons.1 hn
  have hx := hs x List.mem_cons_self
  have h2 := nodup_len l (m.erase x) h1.2 (fun y hy => (List.mem_erase_of_ne (fun e => h1.1 (by rw [← e]; exact hy))).2 (hs y (List.mem_cons_of_mem _ hy)))
  rw [List.length_erase_of_mem hx] at h2
  have := List.length_pos_of_mem hx
  simp only [List.length_cons]
  omega
theorem cb_self : ∀ a : List UInt8, Lib.compareBytes a a = 0
 | [] => by simp [Lib.compareBytes]
 | a :: x => by
  have h0 : ¬ a < a := UInt8.lt_irrefl a
  simpa [Lib.compareBytes, h0] using cb_self x
theorem fold_len {R F : List Rc} (h : FoldOf R F) : F.length ≤ R.length := by
 have h1 := nodup_len (F.map (fun x => x.s.data.toList)) (R.map (fun x => x.s.data.toList)) (by
  refine List.pairwise_map.2 (h.1.imp fun {a b} hab e => ?_)
  have e2 : a.s = b.s := by cases ha : a.s; cases hb : b.s; rw [ha, hb] at e; simpa using e
  rw [e2] at hab
  exact absurd hab (by unfold cmpS; rw [cb_self]; decide)) (fun x hx => by
  obtain ⟨f, hf, rfl⟩ := List.mem_map.1 hx
  obtain ⟨r, hr, e⟩ := (h.2.1 f hf).1
  exact List.mem_map.2 ⟨r, hr, by rw [e]⟩)
 simpa using h1
theorem clone_gives {w w' : World} {L : List K.En} {n : Nat} {ao : Option Addr} {c : Nat} (hn : L.length = n) (hs : ∀ e ∈ L, e.sku.size ≤ maxLen) (hb : n ≤ 3518437208883) (O : K.OwnE w.heap.size w.heap.size w w' ao c L) : K.ESrc w' ao n c L ∧ ∀ ad, ao = some ad → w.heap.size ≤ ad.block := by
 have h := O.src hs (by omega)
 rw [hn] at h
 exact h
set_option maxRecDepth 100000 in
set_option maxHeartbeats 3200000 in
theorem apply_any (ao bo : Option Addr) (n cap m cap' : Nat) (L : List K.En) (R : List Rc) (w : World) (hS : K.ESrc w ao n cap L) (hR : RcS w bo m cap' R) (hwt : ∀ s, wt (ofS R s) ≤ 8796093022207) (hnm : m * (n + 1) ≤ 8796093022207) :
  Calls Tryz.prog 11 #[.slice ao n cap, .slice bo m cap'] w fun x w' => ApA w w' x L R m := by
 have HS := hide hS
 have HR := hide hR
 have HW := hide hwt
 have HNM := hide hnm
 have HL : Hid (L.length = n ∧ n ≤ 3518437208883) := ⟨hS.1, hS.2.2.2.2⟩
 have hnb := HL.out.2
 have HM : Hid (R.length = m) := hR.len
 clear hS hR hwt hnm
 go_enter Tryz.func11, Tryz.ntmps11
 go_wp2_with fail
 refine (K.lcheck_any ao n cap L _ HS.out).mono ?_
 rintro x w1 ⟨rfl, b1⟩
 have HB1 := hide b1
 have HS1 := hide (HS.out.below b1)
 have HR1 := hide (HR.out.below b1)
 clear b1 HS HR
 rcases K.chk_cases L with hc | hc
 rotate_left
 ·have HE : Hid (ApA w w1 (.returned (.tuple #[.slice none 0 0, .int .i64 1])) L R m) := .inr ⟨fun h => (by rw [hc] at h; cases h.1), _, _, _, rfl, K.ESrc.none _, HB1.out, fun ad h => by cases h⟩
  rw [hc]
  clear hc
  go_wp2_with fail
  go_ret2
  exact HE.out
 ·rw [hc]
  have HC := hide hc
  clear hc
  go_wp2_with fail
  refine (fold_any bo m cap' R _ HR1.out HW.out).mono ?_
  rintro x w2 (⟨hO, ⟨qo, qn, qc⟩, F, rfl, S2, b2, -, hF⟩ | ⟨hO, rfl, b2⟩)
  rotate_left
  ·have HE : Hid (ApA w w2 (.returned (.tuple #[.slice none 0 0, .int .i64 1])) L R m) := .inr ⟨fun h => hO h.2, _, _, _, rfl, K.ESrc.none _, HB1.out.trans (b2.mono HB1.out.size), fun ad h => by cases h⟩
   clear hO b2
   go_wp2_with fail
   go_ret2
   exact HE.out
  ·rw [show HsV ⟨qo, qn, qc⟩ = Value.slice qo qn qc from rfl]
   replace S2 : RcS w2 qo qn qc F := S2
   have HO := hide hO
   have HB2 := hide (HB1.out.trans (b2.mono HB1.out.size))
   have HS2 := hide (HS1.out.below b2)
   have HF := hide hF
   have HFS := hide S2
   have HFl : Hid (F.length = qn) := S2.len
   have hqb := S2.big
   have HFm : Hid (qn ≤ m) := by show _ ≤ _; rw [← HFl.out, ← HM.out]; exact fold_len hF
   clear hO b2 HS1 HB1 HR1 hF S2
   by_cases hq0 : qn = 0
   ·have hqi : ((qn : Int) == 0) = true := by simp [hq0]
    have hF0 : F = [] := List.eq_nil_of_length_eq_zero (HFl.out.trans hq0)
    have HFr : Hid (L.filter (freeB R) = L) := by show _ = _; exact free_nil HC.out (hF0 ▸ HF.out)
    clear hF0
    cases ao with
    | none =>
     have h00 := HS2.out.2.1 rfl
     obtain ⟨rfl, rfl⟩ := h00
     go_wp2_with fail
     refine (K.clone_nil _).mono ?_
     rintro x w3 ⟨rfl, rfl⟩
     have HE : Hid (ApA w w3 (.returned (.tuple #[.slice none 0 0, .int .i64 0])) L R m) := .inl ⟨HC.out, HO.out, none, 0, 0, rfl, by rw [HFr.out]; exact HS2.out, HB2.out, fun ad h => by cases h⟩
     go_wp2_with fail
     go_ret2
     exact HE.out
    | some ad =>
     go_wp2_with fail
     refine (K.clone_any ad n cap L _ HS2.out).mono ?_
     rintro x w3 ⟨a3, c3, rfl, O3⟩
     have h3 := clone_gives HL.out.1 HS2.out.2.2.2.1 HL.out.2 O3
     have HE : Hid (ApA w w3 (.returned (.tuple #[.slice a3 n c3, .int .i64 0])) L R m) := .inl ⟨HC.out, HO.out, a3, n, c3, rfl, by rw [HFr.out]; exact h3.1, HB2.out.trans (O3.below.mono HB2.out.size), fun ad h => Nat.le_trans HB2.out.size (h3.2 ad h)⟩
     clear O3 h3
     go_wp2_with fail
     go_ret2
     exact HE.out
   ·have hqi : ((qn : Int) == 0) = false := by simp [hq0]
    have HSK : Hid (∀ e ∈ L, ¬ e.sku.size = 0) := fun e he => ce_sku (chk_ce HC.out e he)
    go_wp2_with fail
    refine (dotsBy_any ao n cap L _ HS2.out HSK.out).mono ?_
    rintro x w3 ⟨kk, rfl, hM⟩
    obtain ⟨K0, f, M3⟩ := hM
    have HM3 := hide M3
    have HB3 := hide (HB2.out.trans (M3.below.mono HB2.out.size))
    have HS3 := hide (HS2.out.below M3.below)
    have HF3 := hide (HFS.out.below M3.below)
    obtain ⟨b, Hb⟩ : ∃ b, Hid (w2.heap.size = b) := ⟨_, rfl⟩
    rw [Hb.out]
    clear M3 HS2 HFS HB2
    go_wp2_with fail
    go_loopw [10, 35] (fun v i wr => ∃ (k : Nat) (x : Hs), k ≤ qn ∧ v = .slice x.o x.n x.c ∧ i = .int .i64 (k : Int) ∧ Hid (∃ X : List Pv, OwnP w3.heap.size w3 wr x X ∧ (∀ p ∈ X, FarH x p) ∧ BX L (F.take k) X ∧ x.n = k)) (fun _ i _ => qn - (intOf i).toNat)
    case atStart => exact ⟨0, hs0, Nat.zero_le _, rfl, rfl, ⟨[], OwnP.nil w3, fun p h => (by cases h), BX.nil L, rfl⟩⟩
    case round =>
     obtain ⟨k, x, hk, rfl, rfl, HX⟩ := hrel
     rename World => wr
     by_cases hlt : k < qn
     ·have hlti : (k : Int) < (qn : Int) := by omega
      obtain ⟨X, O, hFar, hBX, hxn⟩ := HX.out
      obtain ⟨ad, hao, A0⟩ := (HF3.out.below O.below).at k hlt
      have hOk := (HF3.out.below O.below).okAt k hlt
      have HT := hide (take_snocF F k (by rw [HFl.out]; exact hlt))
      obtain ⟨r, Hr⟩ : ∃ r, Hid (F.getD k rc0 = r) := ⟨_, rfl⟩
      rw [Hr.out] at A0 hOk HT
      have hsk := hOk.2
      have hld := run_laRe A0
      obtain ⟨g7, hg7⟩ : ∃ g7, wr.heap.size = g7 := ⟨_, rfl⟩
      obtain ⟨w7, hst, X7, B7, S7⟩ := madeRe wr (mkR r) g7 hg7
      have O7 := (O.later B7).later (below_drew1 w7)
      have M7 := ((HM3.out.later O.below).later B7).later (below_drew1 w7)
      have l0 : (Instr.lookup 63 (.map (some b)) (.string r.s) false).run Tryz.prog w7.drew = .ok (.slice (f r.s).o (f r.s).n (f r.s).c) w7.drew := by
       have := M7.look keyS Tryz.underlying9 Tryz.underlying63 (zeroDs _) r.s hsk
       rwa [Hb.out] at this
      have hdl := M7.len r.s
      have hdb := dotsS_len L r.s
      have HD7 : Hid (RSrc w7.drew (f r.s).o (f r.s).n (f r.s).c (dotsS L r.s)) := by
       have h := M7.rows r.s
       have e : (HsV (f r.s)) = .slice (f r.s).o (dotsS L r.s).length (f r.s).c := by show Value.slice _ _ _ = _; rw [hdl]
       rw [e, hdl] at h
       have := (OwnD.src (B0 := w2.heap.size) ⟨h, M7.below, M7.hb.2.2, by omega⟩ (by have := HL.out; omega)).1
       show RSrc _ _ _ _ _
       rw [hdl]
       exact this
      have HSt : Hid (∀ W : World, W.heap[g7]? = w7.heap[g7]? → W.cell? ⟨g7, 0, none⟩ = some (.string r.s) ∧ (ldP (.pointer (some ⟨g7, 1, none⟩))).run Tryz.prog W = .ok (.agg #[.slice r.p.vo r.p.vn r.p.vc, .slice r.p.co r.p.cn r.p.cc]) W) := fun W h => by
       have X : ReBox W g7 (mkR r) := h.trans X7
       exact ⟨X.sk, run_ldP X.past⟩
      have Hg7 : Hid (g7 < w7.heap.size) := by show _ < _; omega
      have Hlt := hide hlt
      have HO7 := hide O7
      have HFa := hide hFar
      have HBX := hide hBX
      have Hxn : Hid (x.n = k ∧ k ≤ 2199023255552) := ⟨hxn, by omega⟩
      have HP7 : Hid (PSrc w7.drew r.p) := ((hOk.1.below B7).below (below_drew1 w7))
      have HGX : Hid (∀ j, (HsV x).ownBlock = some j → j < g7) := fun j hj => by have := (O.own.lt j hj).2; omega
      subst hao
      clear A0 X7 B7 S7 M7 O7 O hFar hBX hlt hk hOk hdl hdb hxn HX
      go_upto_region 14 with fail
      clear hst hld
      refine wp_region_held_drew (S := fun W => W.cell? ⟨g7, 0, none⟩ = some (.string r.s) ∧ (ldP (.pointer (some ⟨g7, 1, none⟩))).run Tryz.prog W = .ok (.agg #[.slice r.p.vo r.p.vn r.p.vc, .slice r.p.co r.p.cn r.p.cc]) W) (by kernel_rfl) (HSt.out _ rfl) (fun hHeld => ?_)
      refine wTk 0 ⟨some 39, .move (.tmp 10), 65, "bars.go:44", #[], none⟩ rfl ?_
      refine wTk 1 ⟨some 40, .move (.tmp 9), 63, "bars.go:44", #[], none⟩ rfl ?_
      refine wTk 2 ⟨some 41, .fieldAddr 52 (.tmp 12) 0, 0, "bars.go:44", #[], none⟩ rfl ?_
      refine wTk 3 ⟨some 42, .load 9 (.tmp 41), 9, "bars.go:44", #[⟨2, .data⟩], none⟩ rfl ?_
      refine wTk 6 ⟨some 45, .fieldAddr 52 (.tmp 12) 1, 0, "bars.go:44", #[], none⟩ rfl ?_
      refine wTk 7 ⟨some 46, .load 26 (.tmp 45), 26, "bars.go:44", #[⟨6, .data⟩], none⟩ rfl ?_
      refine wpAnyH_ready (rs := [4]) (by kernel_rfl) (by simp) (.cons rfl (fun K hK => ?_) .nil)
      go_simp
      refine hK.out _ _ (HSt.out _ rfl) (fun hHeld => ?_)
      clear hK K
      refine wpAnyH_ready (rs := [5]) (by kernel_rfl) (by simp) (.cons rfl (fun K hK => ?_) .nil)
      go_simp
      go_wp2_with fail
      refine (pastOfN_any (f r.s).o (f r.s).n (f r.s).c (dotsS L r.s) _ HD7.out).mono ?_
      rintro e w8 ⟨pd, rfl, Sd, -, b8, Cd⟩
      have HO8 := hide (HO7.out.later b8)
      have HP8 := hide (HP7.out.below b8)
      have z8 : w8.heap[g7]? = w7.heap[g7]? := b8.block g7 Hg7.out
      have HZ8 := hide z8
      have HG8 : Hid (g7 < w8.heap.size) := Nat.lt_of_lt_of_le Hg7.out b8.size
      have HSd := hide Sd
      have HCd := hide Cd
      refine hK.out _ _ (HSt.out _ z8) (fun hHeld => ?_)
      clear hK K
      clear b8 z8 Sd Cd HO7 HP7 l0
      refine wpAnyH_ready (rs := [8]) (by kernel_rfl) (by simp) (.cons rfl (fun K hK => ?_) .nil)
      go_simp
      go_wp2_with fail
      refine (pastMeet_any pd r.p _ HSd.out HP8.out).mono ?_
      rintro e w9 ⟨pm, rfl, Sm, Nm, b9, Cm⟩
      have HO9 := hide (HO8.out.later b9)
      have z9 : w9.heap[g7]? = w7.heap[g7]? := (b9.block g7 HG8.out).trans HZ8.out
      have HZ9 := hide z9
      have HG9 : Hid (g7 < w9.heap.size) := Nat.lt_of_lt_of_le HG8.out b9.size
      have HSm := hide Sm
      have HFm2 : Hid (FarH x pm) := fun j hj => PFar.new Nm (by have := HGX.out j hj; have := HG8.out; omega)
      have HBm : Hid (BX L (F.take (k + 1)) (X ++ [pm])) := by show BX _ _ _; rw [HT.out]; exact HBX.out.snoc HCd.out Cm
      refine hK.out _ _ (HSt.out _ z9) (fun hHeld => ?_)
      clear hK K
      clear b9 z9 Sm Nm Cm HO8 HP8
      obtain ⟨ga, ca, wa, haa, Oa, Fa, ka⟩ := HO9.out.app HFa.out pm HSm.out HFm2.out (by have := Hxn.out; omega)
      have HAA : Hid ((Builtin.append_ #[65, 65] 65 #[.slice x.o x.n x.c, .slice (some ⟨w9.heap.size, 0, none⟩) 1 1]).run Tryz.prog (w9.alloc (.cells #[.slice pm.vo pm.vn pm.vc, .slice pm.co pm.cn pm.cc] 26)) = .ok (.slice (some ⟨ga, 0, none⟩) (x.n + 1) ca) wa) := haa
      have zA : (w9.alloc (.cells #[.slice pm.vo pm.vn pm.vc, .slice pm.co pm.cn pm.cc] 26)).heap[g7]? = w7.heap[g7]? := (Below.heap_alloc w9 _ g7 HG9.out).trans HZ9.out
      have za : wa.heap[g7]? = w7.heap[g7]? := (ka g7 HG9.out (fun e => by have := HGX.out g7 e; omega)).trans HZ9.out
      have HOa : Hid (∃ X : List Pv, OwnP w3.heap.size w3 wa ⟨some ⟨ga, 0, none⟩, x.n + 1, ca⟩ X ∧ (∀ p ∈ X, FarH ⟨some ⟨ga, 0, none⟩, x.n + 1, ca⟩ p) ∧ BX L (F.take (k + 1)) X ∧ x.n + 1 = k + 1) := ⟨_, Oa, Fa, HBm.out, by rw [Hxn.out.1]⟩
      clear haa Oa Fa ka
      refine wpAnyH_ready (rs := [9]) (by kernel_rfl) (by simp) (.cons rfl (fun K hK => ?_) .nil)
      go_simp
      refine hK.out _ _ (HSt.out _ zA) (fun hHeld => ?_)
      clear hK K
      refine wpAnyH_ready (rs := [10]) (by kernel_rfl) (by simp) (.cons rfl (fun K hK => ?_) .nil)
      refine step_appM (by rfl) (.tmp 39) (.tmp 48) (by rfl) (by rfl) (by rfl) HAA.out ?_
      refine hK.out _ _ (HSt.out _ za) (fun hHeld => ?_)
      clear hK K
      refine wTk 11 ⟨some 10, .assign (.tmp 49), 65, "bars.go:44", #[⟨10, .data⟩, ⟨10, .chain⟩, ⟨0, .phase⟩, ⟨1, .phase⟩, ⟨2, .phase⟩, ⟨3, .phase⟩, ⟨4, .phase⟩, ⟨5, .phase⟩, ⟨6, .phase⟩, ⟨7, .phase⟩, ⟨8, .phase⟩, ⟨9, .phase⟩, ⟨10, .phase⟩], none⟩ rfl ?_
      refine wpAnyH_done (by kernel_rfl) ?_ _
      clear hHeld
      clear zA za
      go_wp2_with fail
      go_roundw
      case rel => exact ⟨k + 1, ⟨some ⟨ga, 0, none⟩, x.n + 1, ca⟩, Hlt.out, rfl, by simp, HOa⟩
      case measure => simp [intOf]; have := Hlt.out; omega
     ·have hlti : ¬ (k : Int) < (qn : Int) := by omega
      obtain ⟨X, O, -, hBX, hxn⟩ := HX.out
      have hT : F.take k = F := List.take_of_length_le (by have := HFl.out; omega)
      rw [hT] at hBX
      have HBX := hide hBX
      have HP : Hid (PRow wr x.o x.n X) := O.row
      have HWX : Hid (wt X ≤ 8796093022207) := by
       show _ ≤ _
       have h1 := hBX.2
       rw [HFl.out, HL.out.1] at h1
       have h2 := Nat.mul_le_mul_right (n + 1) HFm.out
       have h3 := HNM.out
       omega
      have hxq : x.n ≤ 8796093022207 := by omega
      have HBr := hide (HB3.out.trans (O.below.mono HB3.out.size))
      have HSr := hide (HS3.out.below O.below)
      clear O hBX hT hxn HX hk hlt
      go_wp2_with fail
      refine (pastJoin_any x.o x.n x.c X _ HP.out HWX.out hxq).mono ?_
      rintro e w8 ⟨pj, rfl, Sj, -, b8, Cj⟩
      have HB8 := hide (HBr.out.trans (b8.mono HBr.out.size))
      have HS8 := hide (HSr.out.below b8)
      have HSj := hide Sj
      have HCj := hide Cj
      clear b8 Sj Cj HBr HSr
      go_wp2_with fail
      refine (outside_any ao n cap L pj _ HS8.out HSj.out).mono ?_
      rintro e w9 (⟨-, -, a9, n9, c9, rfl, S9, b9, N9⟩ | ⟨hno, -⟩)
      rotate_left
      ·exact absurd ⟨HC.out, canon_iff.1 HCj.out.canon⟩ hno
      ·have HE : Hid (ApA w w9 (.returned (.tuple #[.slice a9 n9 c9, .int .i64 0])) L R m) := .inl ⟨HC.out, HO.out, a9, n9, c9, rfl, by rw [← free_of HC.out HF.out HBX.out HCj.out]; exact S9, HB8.out.trans (b9.mono HB8.out.size), fun ad h => Nat.le_trans HB8.out.size (N9 ad h)⟩
       clear S9 b9 N9
       go_wp2_with fail
       go_ret2
       exact HE.out
end Go.Proofs.YtcnciccljblkfaaGreat

