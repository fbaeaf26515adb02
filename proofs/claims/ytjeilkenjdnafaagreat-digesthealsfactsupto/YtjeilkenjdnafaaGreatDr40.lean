/- SZd SZe SZf TLv TCl TSr TMn -/
import Derived.Test.YtjeilkenjdnafaaGreatTk
import Derived.Test.YtjeilkenjdnafaaGreatDr34
import Derived.Test.YtjeilkenjdnafaaGreatDr35
import Derived.Test.YtjeilkenjdnafaaGreatDr37
import Derived.Test.YtjeilkenjdnafaaGreatDr39
import Derived.Test.YtjeilkenjdnafaaGreatDr27
import Derived.Test.YtjeilkenjdnafaaGreatDr19
import Derived.Test.YtjeilkenjdnafaaGreatDr38
import Derived.Test.YtjeilkenjdnafaaGreatDr20
import Derived.Test.YtjeilkenjdnafaaGreatDr16
import Derived.Test.YtjeilkenjdnafaaGreatDr33
import Derived.Deep.CutRange
set_option maxRecDepth 100000
namespace Go.Proofs.YtjeilkenjdnafaaGreat
section
open Go.RowKit
attribute [local go_sem ↓] ldP_eq stP_eq ldFa_eq stFa_eq ldD_eq stD_eq K.ld28_eq K.st28_eq ldRe_eq stRe_eq
attribute [local go_sem] cells_PV PC_size cells_FaV FaC_size zero_FaZ cells_RV RC_size zero_RC fold_RC K.zero_EC K.cells_EV K.EC_size K.fold_EC cells_ReV ReC_size zero_ReC
def lvB (P:Pst) (R:List Rc) (e:K.En):Bool := !(inB P e) && freeB R e
end
section
open Go.RowKit
def StD (f s:Fc):Prop:=s.es=f.es.filter (lvB f.p.P f.rs)/\HeardOf f s.p.P/\WtOf f.rs s.p.P s.rs
attribute [local go_sem ↓] ldP_eq stP_eq ldFa_eq stFa_eq ldSw_eq stSw_eq bldS_eq bsPs_eq
attribute [local go_sem] cells_PV PC_size cells_FaV FaC_size zero_FaZ run_bsPs run_bldS run_bldS0 zero_PC
end
section
open Go.RowKit
def exf (s:Fc) (q:Pv):Fc:=⟨s.ao,s.an,s.ac,s.es,q,s.ro,s.rn,s.rc,s.rs⟩
def ExQ (s:Fc) (q:Pv):Prop:=∃ D,CanonOf (dotsG (s.es.map dotOf)) D/\∃ C:Nat -> List Rn,(∀ r,r < 16 -> MinusOf (runsAt s.p.P r) (runsAt D r) (C r))/\CanonOf C q.P
theorem inB_isR {P:Pst} {e:K.En} (h:inB P e=true):0 <= e.rep/\e.rep < 16:=by
 have h1:=((inB_iff P e).1 h).1;simpa [V.isR] using h1
theorem inB_okDS {P:Pst} {e:K.En} (h:inB P e=true):okD (dotOf e)=true:=by
 have h0:=inB_isR h;unfold inB at h;simp only [Bool.and_eq_true,decide_eq_true_eq] at h;unfold okD dotOf;simp only [Bool.and_eq_true,decide_eq_true_eq];refine ⟨by simp [V.isR];omega,?_⟩
 first
  | exact ⟨h.2.2.1,h.2.2.2.1⟩
  | (simp;omega)
theorem inB_mem {P:Pst} {e:K.En} (h:0 <= e.rep/\e.rep < 16):inB P e=true↔mem (runsAt P e.rep.toNat) e.num:=by
 rw [inB_iff];unfold dotIn
 have h1:V.isR e.rep=true:=by simp [V.isR];omega
 simp [h1]
theorem inB_ds {L:List K.En} {P:Pst} (h:CanonOf (dotsG (L.map dotOf)) P) (e:K.En) (h0:0 <= e.rep/\e.rep < 16):mem (runsAt P e.rep.toNat) e.num↔okD (dotOf e)=true/\∃ x∈L,dotOf x=dotOf e:=by
 rw [canon_mem h _ (by omega),dotsG_mem];constructor
 ·rintro ⟨d,hd,k1,k2,k3⟩;obtain ⟨x,hx,rfl⟩:=List.mem_map.1 hd
  have ed:dotOf x=dotOf e:=by
   unfold dotOf at k2 k3 ⊢;simp only at k2 k3;congr 1;omega
  exact ⟨ed ▸ k1,x,hx,ed⟩
 ·rintro ⟨h1,x,hx,h2⟩;exact ⟨dotOf x,List.mem_map.2 ⟨x,hx,rfl⟩,h2 ▸ h1,by rw [h2];show e.rep=((e.rep.toNat:Nat):Int);omega,by rw [h2];rfl⟩
theorem dot_inB {P:Pst} {x e:K.En} (h:dotOf x=dotOf e):inB P x=inB P e:=by
 obtain ⟨a,b,c,d⟩:=x;obtain ⟨a',b',c',d'⟩:=e;unfold dotOf at h;injection h with h1 h2;subst h1 h2;rfl
theorem dot_sd {x e:K.En} (h:dotOf x=dotOf e):K.sameDot x e=true:=by
 unfold dotOf at h;injection h with h1 h2;unfold K.sameDot;simp [h1,h2]
theorem heard_inB {u:Fc} {P:Pst} (h:HeardOf u P) (e:K.En):inB P e=true↔(okD (dotOf e)=true/\∃ x∈u.es,dotOf x=dotOf e)∨inB u.p.P e=true:=by
 by_cases h0:0 <= e.rep/\e.rep < 16
 ·rw [inB_mem h0,inB_mem h0,h.2 _ (by omega) e.num,dotsG_mem];refine or_congr_left ?_;constructor
  ·rintro ⟨d,hd,k1,k2,k3⟩;obtain ⟨x,hx,rfl⟩:=List.mem_map.1 hd
   have ed:dotOf x=dotOf e:=by
    unfold dotOf at k2 k3 ⊢;simp only at k2 k3;congr 1;omega
   exact ⟨ed ▸ k1,x,hx,ed⟩
  ·rintro ⟨h1,x,hx,h2⟩;exact ⟨dotOf x,List.mem_map.2 ⟨x,hx,rfl⟩,h2 ▸ h1,by rw [h2];show e.rep=((e.rep.toNat:Nat):Int);omega,by rw [h2];rfl⟩
 ·constructor
  ·intro h;exact absurd (inB_isR h) h0
  ·rintro (⟨h,-⟩ | h)
   ·exfalso;unfold okD dotOf at h;simp only [Bool.and_eq_true] at h;have h1:=h.1;simp [V.isR] at h1;omega
   ·exact absurd (inB_isR h) h0
end
section
open Go.RowKit
attribute [local go_sem ↓] ldP_eq stP_eq ldFa_eq stFa_eq
attribute [local go_sem] cells_PV PC_size cells_FaV FaC_size
def liveL (f:Fc):List K.En:=(f.es.filter (pkB f.p.P false)).filter (freeB f.rs)
def LvA (w w':World) (x:Ending) (f:Fc):Prop:=(FormF f/\K.GivesEE w w' x (liveL f) 0)∨(¬ FormF f/\K.GivesEE w w' x [] 1)
theorem chk_filter {L:List K.En} (h:K.chk L=0) (p:K.En -> Bool):K.chk (L.filter p)=0:=
 K.chk_asc (List.Pairwise.filter p (K.chk_asc' h)) (fun e he=>chk_ce h e (List.mem_filter.1 he).1)
theorem GivesEE.mono0 {w w0 w':World} {x:Ending} {L:List K.En} {er:Int} (h:K.GivesEE w w' x L er) (hb:Below w0.heap.size w0 w):K.GivesEE w0 w' x L er:=by
 obtain ⟨ao,n,c,h1,h2,h3,h4⟩:=h;exact ⟨ao,n,c,h1,h2,hb.trans (h3.mono hb.size),fun ad e=>Nat.le_trans hb.size (h4 ad e)⟩
theorem tLive_any (f:Fc) (w:World) (hF:FcOk w f) (hwt:∀ s,wt (ofS f.rs s) <= 8796093022207) (hnm:f.rn * (f.an+1) <= 8796093022207) :
  Calls Tryz.prog 36 #[FaV (mkF f)] w fun e w'=>LvA w w' e f:=by
 have HX:=hide (FaBox_new w (mkF f));have HBK:=hide (below_new w (.cells (FaC (mkF f)) 29));have HS:=hide (hF.below HBK.out);have HW:=hide (And.intro hwt hnm);clear hF hwt hnm;obtain ⟨wk,hwk⟩:∃ wk,w.alloc (.cells (FaC (mkF f)) 29)=wk:=⟨_,rfl⟩;obtain ⟨G,hG⟩:∃ G,w.heap.size=G:=⟨_,rfl⟩;rw [hwk] at HX HBK HS;rw [hG] at HX;obtain ⟨c0,c3⟩:=HX.out.cs;have lp:=run_ldP HX.out.past;go_enter Tryz.func36,Tryz.ntmps36;go_wp2_with fail;clear hwk hG;refine (outside_any f.ao f.an f.ac f.es f.p _ HS.out.es HS.out.p).mono ?_;rintro e w1 h1;rcases h1 with ⟨h1,h2,ao,n,c,rfl,S1,b1,n1⟩ | ⟨h1,ao,n,c,rfl,S1,b1,n1⟩;rotate_left
 ·have HE:Hid (LvA w w1 (.returned (.tuple #[.slice none 0 0,.int .i64 1])) f):=.inr ⟨fun h=>h1 ⟨(chk_okN HS.out.es.1).2 h.1,h.2.1⟩,none,0,0,rfl,esrc_nil _,HBK.out.trans (b1.mono HBK.out.size),fun ad e=>(by cases e)⟩;clear h1 S1 b1 n1 c0 c3 lp;go_wp2_with fail;go_ret2;exact HE.out
 have HC:Hid (K.chk f.es=0/\InForm f.p.P):=⟨h1,h2⟩;have HB1:=wTr HBK b1;have HX1:=hide (HX.out.below b1);have HS1:=hide (HS.out.below b1);have HL1:=hide S1;have hlen:(f.es.filter (pkB f.p.P false)).length=n:=S1.1
 have hle:n <= f.an:=by rw [<- hlen,<- HS.out.es.1];exact List.length_filter_le _ _
 have HM:Hid (f.rn * (n+1) <= 8796093022207):=Nat.le_trans (Nat.mul_le_mul_left _ (by omega)) HW.out.2;clear h1 h2 S1 b1 n1 c0 c3 lp hlen hle;obtain ⟨-,c3⟩:=HX1.out.cs;go_wp2_with fail;clear c3;refine (apply_any ao f.ro n c f.rn f.rc _ f.rs _ HL1.out HS1.out.rs HW.out.1 HM.out).mono ?_;rintro e w2 h2;rcases h2 with ⟨-,h2,h3⟩ | ⟨h2,h3⟩
 ·have HE:Hid (LvA w w2 e f):=.inl ⟨⟨(chk_okN HS.out.es.1).1 HC.out.1,HC.out.2,h2⟩,GivesEE.mono0 h3 HB1.out⟩;obtain ⟨a2,n2,c2,rfl,-,-,-⟩:=h3;clear h2;go_wp2_with fail;go_ret2;exact HE.out
 ·have HE:Hid (LvA w w2 e f):=.inr ⟨fun h=>h2 ⟨chk_filter HC.out.1 _,h.2.2⟩,GivesEE.mono0 h3 HB1.out⟩;obtain ⟨a2,n2,c2,rfl,-,-,-⟩:=h3;clear h2;go_wp2_with fail;go_ret2;exact HE.out
end
section
open Go.RowKit
def ClE (e:K.En) (g:Fc):Prop:=∃ y∈g.es,K.sameDot y e=true/\y≠e
def dotE (e:K.En):Rn:=⟨e.rep,e.num⟩
def ClOf (f g:Fc) (d:Rn) (b:Bool):Prop:=(¬ (FormF f/\FormF g)/\d=rn0/\b=false)∨(FormF f/\FormF g/\((b=false/\d=rn0/\∀ i,i < f.an -> ¬ ClE (f.es.getD i K.en0) g)∨(b=true/\∃ i,i < f.an/\ClE (f.es.getD i K.en0) g/\(∀ j,j < i -> ¬ ClE (f.es.getD j K.en0) g)/\d=dotE (f.es.getD i K.en0))))
def ClA (w w':World) (x:Ending) (f g:Fc):Prop:=∃ (d:Rn) (b:Bool),x = .returned (.tuple #[RV d,.bool b])/\ClOf f g d b/\Below w.heap.size w w'
attribute [local go_sem ↓] ldP_eq stP_eq ldFa_eq stFa_eq ldD_eq stD_eq K.ld28_eq K.st28_eq
attribute [local go_sem] cells_PV PC_size cells_FaV FaC_size cells_RV RC_size zero_RC fold_RC K.zero_EC K.cells_EV K.EC_size
def bldDz (a:Array (Nat × Value)):Sem Value:=Instr.build 55 a
theorem bldDz_eq (a:Array (Nat × Value)):Instr.build 55 a=bldDz a:=rfl
theorem run_bldDz (w:World):(bldDz #[]).run Tryz.prog w = .ok (RV rn0) w:=by kernel_rfl
attribute [local go_sem ↓] bldDz_eq
attribute [local go_sem] run_bldDz
end
section
open Go.RowKit
attribute [local go_sem ↓] K.ld28_eq K.st28_eq K.run_eq28 ldP_eq stP_eq ldRe_eq stRe_eq
attribute [local go_sem] K.zero_EC K.cells_EV cells_PV PC_size
def EqF (f g:Fc):Prop:=f.es=g.es/\f.p.P=g.p.P/\plR f.rs=plR g.rs
attribute [local go_sem ↓] ldFa_eq stFa_eq
attribute [local go_sem] cells_FaV FaC_size
end
section
open Go.RowKit
structure IsF (h:Fc) (E:K.En -> Prop) (M:Nat -> Int -> Prop) (R:Rp -> Prop):Prop where
 form:FormF h
 len:h.es.length=h.an/\h.rs.length=h.rn
 es:∀ x,x∈h.es↔E x
 p:∀ r,r < 16 -> ∀ n,mem (runsAt h.p.P r) n↔M r n
 rs:∀ y,y∈plR h.rs↔R y
def WellF (f g:Fc):Prop:=FormF f/\FormF g/\∀ e∈f.es,¬ ClE e g
theorem sameDot_symm {x y:K.En} (h:K.sameDot x y=true):K.sameDot y x=true:=by
 unfold K.sameDot at h ⊢;simp only [Bool.and_eq_true,beq_iff_eq] at h ⊢;exact ⟨h.1.symm,h.2.symm⟩
theorem WellF.symm {f g:Fc} (h:WellF f g):WellF g f:=⟨h.2.1,h.1,fun e he ⟨y,hy,hd,hne⟩=>h.2.2 y hy ⟨e,he,sameDot_symm hd,fun q=>hne q.symm⟩⟩
attribute [local go_sem ↓] ldFa_eq stFa_eq ldD_eq stD_eq
attribute [local go_sem] cells_FaV FaC_size cells_RV RC_size zero_RC
end
end Go.Proofs.YtjeilkenjdnafaaGreat
