/- SXr SXy SYa PVw LView -/
import Derived.Test.YtaphmhbmhcahaaaGreatSo41
import Derived.Test.YtaphmhbmhcahaaaGreatSo16
import Derived.Test.YtaphmhbmhcahaaaGreatSo36
import Derived.Test.YtaphmhbmhcahaaaGreatSo00
import Derived.ProofKit
import Derived.OpenShut
import Derived.Lib.SmallJoins
import Derived.HandedShaped
import Derived.SizedLaws
import Derived.ChangeMaps5
import Derived.JoinedCond
import Derived.Test.YtaphmhbmhcahaaaGreatSo15
namespace Go.Proofs.YtaphmhbmhcahaaaGreat
section
open Go.RowKit
def BarD (a b:Fc) (d:Rn):Prop:=∃ e∈a.es,dotOf e=d/\∃ r∈b.rs,covB r e=true
theorem getE_in {L:List K.En} {k:Nat} (h:k < L.length):L.getD k K.en0∈L:=by
 rw [List.getD_eq_getElem?_getD,List.getElem?_eq_getElem h];exact List.getElem_mem h
attribute [local go_sem ↓] ldP_eq stP_eq ldSw_eq stSw_eq ldD_eq stD_eq K.ld28_eq K.st28_eq ldRe_eq stRe_eq run_eqRV
attribute [local go_sem] cells_PV PC_size cells_FaV FaC_size cells_RV RC_size zero_RC K.cells_EV K.EC_size K.zero_EC cells_ReV ReC_size zero_ReC
end
section
open Go.RowKit
structure Ab where
 L:List K.En
 P:Pst
 R:List Rp
def ab (s:Fc):Ab:=⟨s.es,s.p.P,plR s.rs⟩
def RpOk (y:Rp):Prop:=skuR y.1=true/\FormP y.2
def covA (r:Rp) (e:K.En):Bool:=(decide (r.1.size=0) || (r.1.toList == e.sku.toList)) && inB r.2 e
def freeA (R:List Rp) (e:K.En):Prop:=∀ r∈R,covA r e=false
theorem free_ab (R:List Rc) (e:K.En):freeB R e=true↔freeA (plR R) e:=by
 unfold freeB freeA;rw [Bool.not_eq_true',List.any_eq_false];constructor
 ·intro h r hr;obtain ⟨x,hx,rfl⟩:=List.mem_map.1 hr;exact Bool.eq_false_iff.2 (h x hx)
 ·intro h x hx;exact Bool.eq_false_iff.1 (h (rck x) (List.mem_map.2 ⟨x,hx,rfl⟩))
structure FmA (x:Ab):Prop where
 c:K.chk x.L=0
 p:InForm x.P
 r:(∀ y∈x.R,RpOk y)/\Srt ck x.R
 h:∀ e∈x.L,inB x.P e=true
 w:∀ y∈x.R,¬ wiP y.2 x.P
 f:∀ e∈x.L,freeA x.R e
theorem fm_iff {w:World} {s:Fc} (hF:FcOk w s):FormS s↔FmA (ab s):=by
 have hl:=hF.es.1;have hr:=hF.rs.len;constructor
 ·rintro ⟨⟨h1,h2,h3⟩,h4,h5,h6⟩;rw [<- hr] at h3;obtain ⟨h7,h8⟩:=okR_iff.1 h3;refine ⟨(chk_okS hl).2 h1,h2,⟨fun y hy=>?_,h8⟩,h4,fun y hy=>?_,fun e he=>(free_ab _ _).1 (h6 e he)⟩
  ·obtain ⟨x,hx,rfl⟩:=List.mem_map.1 hy;exact h7 x hx
  ·obtain ⟨x,hx,rfl⟩:=List.mem_map.1 hy;exact h5 x hx
 ·intro h;refine ⟨⟨(chk_okS hl).1 h.c,h.p,?_⟩,h.h,fun r hr=>h.w (rck r) (List.mem_map.2 ⟨r,hr,rfl⟩),fun e he=>(free_ab _ _).2 (h.f e he)⟩;rw [<- hr];exact okR_iff.2 ⟨fun r hr=>h.r.1 (rck r) (List.mem_map.2 ⟨r,hr,rfl⟩),h.r.2⟩
def enD (r:Nat) (n:Int):K.En:=⟨(r:Int),n,⟨#[]⟩,0⟩
theorem inB_en {P:Pst} {r:Nat} (hr:r < 16) {n:Int}:inB P (enD r n)=true↔mem (runsAt P r) n:=by
 rw [inB_iff];unfold dotIn enD
 have h:V.isR (r:Int)=true:=by simp [V.isR];omega
 simp [h]
theorem wi_inB {A P:Pst}:wiP A P↔∀ e,inB A e=true -> inB P e=true:=by
 constructor
 ·intro h e he;rw [inB_iff] at he ⊢;obtain ⟨h1,h2⟩:=he
  have h4:0 <= e.rep/\e.rep < 16:=by simpa [V.isR] using h1
  exact ⟨h1,h _ (by show e.rep.toNat < 16;omega) _ h2⟩
 ·intro h r hr n hm;exact (inB_en hr).1 (h (enD r n) ((inB_en hr).2 hm))
theorem pst_ext {P Q:Pst} (hp:InForm P) (hq:InForm Q) (h:∀ e,inB P e=true↔inB Q e=true):P=Q:=
 (canon_iff.2 hp:CanonOf (runsAt P) P).unique (canon_iff.2 hq:CanonOf (runsAt Q) Q) fun r hr n=>by
  rw [<- inB_en hr,<- inB_en hr];exact h _
structure JnA (x y z:Ab):Prop where
 a:K.Asc z.L
 l:∀ e,e∈z.L↔KeptM x.L y.L x.P y.P e/\freeA x.R e/\freeA y.R e
 p:InForm z.P
 d:∀ e,inB z.P e=true↔inB x.P e=true∨inB y.P e=true
 s:Srt ck z.R
 r:∀ q,q∈z.R↔(q∈x.R∨q∈y.R)/\¬ wiP q.2 z.P
theorem ab_ext {x y:Ab} (h1:x.L=y.L) (h2:x.P=y.P) (h3:x.R=y.R):x=y:=by
 cases x;cases y;simp_all
theorem JnA.uniq {x y z z':Ab} (h:JnA x y z) (k:JnA x y z'):z=z':=by
 have hP:z.P=z'.P:=pst_ext h.p k.p fun e=>(h.d e).trans (k.d e).symm;refine ab_ext (K.asc_unique h.a k.a fun e=>(h.l e).trans (k.l e).symm) hP (Srt.uniq ck_tot h.s k.s fun q=>?_);rw [h.r,k.r,hP]
theorem kept_comm {A B:List K.En} {P O:Pst} {e:K.En}:KeptM A B P O e↔KeptM B A O P e:=or_comm
theorem JnA.comm {x y z:Ab} (h:JnA x y z):JnA y x z:=
 ⟨h.a,fun e=>(h.l e).trans ⟨fun k=>⟨kept_comm.1 k.1,k.2.2,k.2.1⟩,fun k=>⟨kept_comm.1 k.1,k.2.2,k.2.1⟩⟩,h.p,fun e=>(h.d e).trans or_comm,h.s,fun q=>(h.r q).trans ⟨fun k=>⟨k.1.symm,k.2⟩,fun k=>⟨k.1.symm,k.2⟩⟩⟩
theorem canon_inB {P:Pst} {a b:Pv} (h:CanonOf (runsOf [a,b]) P) (e:K.En):inB P e=true↔inB a.P e=true∨inB b.P e=true:=by
 rw [inB_iff,inB_iff,inB_iff];unfold dotIn;by_cases h1:V.isR e.rep=true
 ·have h4:0 <= e.rep/\e.rep < 16:=by simpa [V.isR] using h1
  have hr:e.rep.toNat < 16:=by omega
  simp only [h1,true_and];rw [canon_mem h _ hr,runsOf_mem];simp
 ·simp [h1]
theorem chk_of {s:Fc} {w:World} (hF:FcOk w s) (h:FormS s):K.chk s.es=0:=(chk_okS hF.es.1).2 h.1.1
theorem sj_cases {wa wb:World} {a b s:Fc} {er:Int} (hA:FcOk wa a) (hB:FcOk wb b) (h:SjD a b s er):(¬ (FormS a/\FormS b)/\er=1/\s=fz0)∨((FormS a/\FormS b)/\K.Clash (a.es++b.es)/\er=10/\s=fz0)∨((FormS a/\FormS b)/\¬ K.Clash (a.es++b.es)/\er=0/\JnA (ab a) (ab b) (ab s)):=by
 rcases h with h | ⟨hf,Z,e,hm,h⟩
 ·exact .inl h
 right;rcases hm with ⟨h1,-,rfl⟩ | ⟨h1,h2,-,rfl⟩ | ⟨h1,h2,rfl,h3,h4⟩
 ·refine absurd ⟨?_,?_,hf.1.1.2.1,hf.2.1.2.1⟩ h1
  ·exact chk_of hA hf.1
  ·exact chk_of hB hf.2
 ·rcases h with ⟨-,rfl,rfl⟩ | ⟨h,-⟩
  ·exact .inl ⟨hf,h2,rfl,rfl⟩
  ·cases h
 ·rcases h with ⟨h,-⟩ | ⟨-,rfl,U,hU,h5,h6,h7⟩
  ·exact absurd rfl h
  refine .inr ⟨hf,h2,rfl,?_,fun e=>?_,?_,canon_inB h6,?_,fun q=>?_⟩
  ·show K.Asc s.es
   rw [h5];exact h3.sublist List.filter_sublist
  ·show e∈s.es↔_
   rw [h5,List.mem_filter,h4,free_ab];refine and_congr_right fun _=>?_;constructor
   ·intro k;exact ⟨fun r hr=>k r ((hU.1.2 r).2 (.inl hr)),fun r hr=>k r ((hU.1.2 r).2 (.inr hr))⟩
   ·intro k r hr;exact ((hU.1.2 r).1 hr).elim (k.1 r) (k.2 r)
  ·exact canon_iff.1 h6.canon
  ·show Srt ck (plR s.rs)
   rw [h7.2];exact List.Pairwise.sublist List.filter_sublist hU.1.1
  ·show q∈plR s.rs↔_
   rw [h7.2,List.mem_filter,hU.1.2];refine and_congr_right fun _=>?_;unfold waitB;simp;rfl
end
section
open Go.RowKit
theorem asc_dotS {R:List K.En} (h:K.Asc R) {x y:K.En} (hx:x∈R) (hy:y∈R) (hs:K.sameDot x y=true):x=y:=
 Classical.byContradiction fun hne=>K.asc_noclash h (fun _=>Iff.rfl) ⟨x,hx,y,hy,hs,hne⟩
theorem same_eq {A B:List K.En} (hc:¬ K.Clash (A++B)) {x y:K.En} (hx:x∈A) (hy:y∈B) (h:K.sameDot y x=true):y=x:=by
 refine Classical.byContradiction fun hne=>hc ⟨y,List.mem_append.2 (.inr hy),x,List.mem_append.2 (.inl hx),h,hne⟩
theorem stay_iff {A B:List K.En} {O:Pst} (hc:¬ K.Clash (A++B)) {x:K.En} (hx:x∈A):stayB B O x=true↔(inB O x=true -> x∈B):=by
 unfold stayB;rw [Bool.or_eq_true,List.any_eq_true,Bool.not_eq_true'];constructor
 ·rintro (⟨y,hy,h⟩ | h) k
  ·rw [<- same_eq hc hx hy h];exact hy
  ·rw [k] at h;cases h
 ·intro h;by_cases k:inB O x=true
  ·exact .inl ⟨x,h k,by simp [K.sameDot]⟩
  ·exact .inr (Bool.eq_false_iff.2 k)
theorem clash_comm {A B:List K.En} (hc:¬ K.Clash (A++B)):¬ K.Clash (B++A):=fun h=>hc (clash_swap h)
theorem kept_iff {A B:List K.En} {P O:Pst} (hc:¬ K.Clash (A++B)) {e:K.En}:KeptM A B P O e↔(e∈A∨e∈B)/\(inB P e=true -> e∈A)/\(inB O e=true -> e∈B):=by
 unfold KeptM;constructor
 ·rintro (⟨h1,h2⟩ | ⟨h1,h2⟩)
  ·exact ⟨.inl h1,fun _=>h1,(stay_iff hc h1).1 h2⟩
  ·exact ⟨.inr h1,(stay_iff (clash_comm hc) h1).1 h2,fun _=>h1⟩
 ·rintro ⟨h1 | h1,h2,h3⟩
  ·exact .inl ⟨h1,(stay_iff hc h1).2 h3⟩
  ·exact .inr ⟨h1,(stay_iff (clash_comm hc) h1).2 h2⟩
theorem FmA.asc {x:Ab} (h:FmA x):K.Asc x.L:=K.chk_asc' h.c
theorem FmA.ce {x:Ab} (h:FmA x):∀ e∈x.L,K.ceE e=0:=chk_ce h.c
def NoC (x y:Ab):Prop:=¬ K.Clash (x.L++y.L)
theorem NoC.comm {x y:Ab} (h:NoC x y):NoC y x:=clash_comm h
theorem noC_of {x y:Ab} (hx:K.Asc x.L) (hy:K.Asc y.L) (h:∀ a∈x.L,∀ b∈y.L,K.sameDot a b=true -> a=b):NoC x y:=by
 rintro ⟨a,ha,b,hb,hs,hne⟩
 have sw:∀ p q:K.En,K.sameDot p q=true -> K.sameDot q p=true:=fun p q h=>by
  unfold K.sameDot at h ⊢;rw [Bool.and_eq_true,beq_iff_eq,beq_iff_eq] at h ⊢;exact ⟨h.1.symm,h.2.symm⟩
 rcases List.mem_append.1 ha with ha | ha <;> rcases List.mem_append.1 hb with hb | hb
 ·exact hne (asc_dotS hx ha hb hs)
 ·exact hne (h a ha b hb hs)
 ·exact hne (h b hb a ha (sw _ _ hs)).symm
 ·exact hne (asc_dotS hy ha hb hs)
theorem noC_self {x:Ab} (h:FmA x):NoC x x:=noC_of h.asc h.asc fun _ ha _ hb hs=>asc_dotS h.asc ha hb hs
theorem NoC.at {x y:Ab} (h:NoC x y) {a b:K.En} (ha:a∈x.L) (hb:b∈y.L) (hs:K.sameDot a b=true):a=b:=
 Classical.byContradiction fun hne=>h ⟨a,List.mem_append.2 (.inl ha),b,List.mem_append.2 (.inr hb),hs,hne⟩
theorem JnA.live {x y z:Ab} (h:JnA x y z) (hc:NoC x y) (e:K.En):e∈z.L↔((e∈x.L∨e∈y.L)/\(inB x.P e=true -> e∈x.L)/\(inB y.P e=true -> e∈y.L))/\freeA x.R e/\freeA y.R e:=by
 rw [h.l,kept_iff hc]
theorem JnA.from_ {x y z:Ab} (h:JnA x y z) {e:K.En} (he:e∈z.L):e∈x.L∨e∈y.L:=((h.l e).1 he).1.imp And.left And.left
theorem JnA.noC {x y z c:Ab} (h:JnA x y z) (hc:FmA c) (h1:NoC x c) (h2:NoC y c):NoC z c:=
 noC_of h.a hc.asc fun _ ha _ hb hs=>(h.from_ ha).elim (fun k=>h1.at k hb hs) (fun k=>h2.at k hb hs)
theorem free_dn {x y z:Ab} (h:JnA x y z) {e:K.En} (h1:freeA x.R e) (h2:freeA y.R e):freeA z.R e:=fun q hq=>((h.r q).1 hq).1.elim (h1 q) (h2 q)
theorem cov_in {q:Rp} {e:K.En} (h:covA q e=true):inB q.2 e=true:=by unfold covA at h;rw [Bool.and_eq_true] at h;exact h.2
theorem JnA.form {x y z:Ab} (h:JnA x y z) (hx:FmA x) (hy:FmA y):FmA z:=by
 refine ⟨K.chk_asc h.a fun e he=>(h.from_ he).elim (hx.ce e) (hy.ce e),h.p,⟨fun q hq=>((h.r q).1 hq).1.elim (hx.r.1 q) (hy.r.1 q),h.s⟩,fun e he=>(h.d e).2 ((h.from_ he).imp (hx.h e) (hy.h e)),fun q hq=>((h.r q).1 hq).2,fun e he=>?_⟩;have:=(h.l e).1 he;exact free_dn h this.2.1 this.2.2
theorem le_iff {x y:Ab} (hx:FmA x) (hy:FmA y) (hc:NoC x y):JnA x y y↔(∀ e,inB x.P e=true -> inB y.P e=true)/\(∀ q∈x.R,¬ wiP q.2 y.P -> q∈y.R)/\(∀ e∈y.L,inB x.P e=true -> e∈x.L)/\∀ e∈y.L,freeA x.R e:=by
 constructor
 ·intro h;refine ⟨fun e he=>(h.d e).2 (.inl he),fun q hq hw=>(h.r q).2 ⟨.inl hq,hw⟩,fun e he=>?_,fun e he=>?_⟩
  ·exact ((h.live hc e).1 he).1.2.1
  ·exact ((h.live hc e).1 he).2.1
 ·rintro ⟨h1,h2,h3,h4⟩;refine ⟨hy.asc,fun e=>?_,hy.p,fun e=>⟨.inr,fun k=>k.elim (h1 e) id⟩,hy.r.2,fun q=>⟨fun k=>⟨.inr k,hy.w q k⟩,fun k=>k.1.elim (fun m=>h2 q m k.2) id⟩⟩;rw [kept_iff hc];constructor
  ·intro k;exact ⟨⟨.inr k,h3 e k,fun _=>k⟩,h4 e k,hy.f e k⟩
  ·rintro ⟨⟨k1 | k1,-,k3⟩,-⟩
   ·exact k3 (h1 e (hx.h e k1))
   ·exact k1
theorem le_refl {x:Ab} (hx:FmA x):JnA x x x:=(le_iff hx hx (noC_self hx)).2 ⟨fun _ h=>h,fun _ h _=>h,fun _ h _=>h,hx.f⟩
theorem le_trans {x y z:Ab} (hx:FmA x) (hy:FmA y) (hz:FmA z) (c1:NoC x y) (c2:NoC y z) (c3:NoC x z) (h1:JnA x y y) (h2:JnA y z z):JnA x z z:=by
 obtain ⟨a1,a2,a3,a4⟩:=(le_iff hx hy c1).1 h1;obtain ⟨b1,b2,b3,b4⟩:=(le_iff hy hz c2).1 h2;refine (le_iff hx hz c3).2 ⟨fun e h=>b1 e (a1 e h),fun q hq hw=>?_,fun e he hi=>a3 e (b3 e he (a1 e hi)) hi,fun e he q hq=>?_⟩
 ·exact b2 q (a2 q hq fun k=>hw (wi_inB.2 fun e h=>b1 e (wi_inB.1 k e h))) hw
 ·refine Bool.eq_false_iff.2 fun hcv=>?_;by_cases hw:wiP q.2 y.P
  ·have hi:=wi_inB.1 hw e (cov_in hcv);have:=a4 e (b3 e he hi) q hq;rw [hcv] at this;cases this
  ·have:=b4 e he q (a2 q hq hw);rw [hcv] at this;cases this
theorem le_join {x y z:Ab} (hx:FmA x) (hy:FmA y) (hc:NoC x y) (h:JnA x y z):JnA x z z:=by
 have hz:=h.form hx hy;have c:NoC x z:=(h.noC hx (noC_self hx) hc.comm).comm;refine (le_iff hx hz c).2 ⟨fun e k=>(h.d e).2 (.inl k),fun q hq hw=>(h.r q).2 ⟨.inl hq,hw⟩,fun e he=>((h.live hc e).1 he).1.2.1,fun e he=>((h.live hc e).1 he).2.1⟩
theorem join_le {x y z c:Ab} (hx:FmA x) (hy:FmA y) (hz:FmA c) (hc:NoC x y) (c1:NoC x c) (c2:NoC y c) (h:JnA x y z) (h1:JnA x c c) (h2:JnA y c c):JnA z c c:=by
 obtain ⟨a1,a2,a3,a4⟩:=(le_iff hx hz c1).1 h1;obtain ⟨b1,b2,b3,b4⟩:=(le_iff hy hz c2).1 h2;refine (le_iff (h.form hx hy) hz (h.noC hz c1 c2)).2 ⟨fun e k=>((h.d e).1 k).elim (a1 e) (b1 e),fun q hq hw=>((h.r q).1 hq).1.elim (fun k=>a2 q k hw) (fun k=>b2 q k hw),fun e he hi=>?_,fun e he=>free_dn h (a4 e he) (b4 e he)⟩;refine (h.live hc e).2 ⟨⟨((h.d e).1 hi).imp (a3 e he) (b3 e he),a3 e he,b3 e he⟩,a4 e he,b4 e he⟩
theorem le_anti {x y:Ab} (h1:JnA x y y) (h2:JnA y x x):x=y:=h2.comm.uniq h1
def ab0:Ab:=⟨[],pv0.P,[]⟩
end
section
open Go.ChangeShapes Go.WideShapes Go.ChangeAt Go.RowKit Go.Joins

theorem own:ownKnob Tryz.prog.godebug=none:=by kernel_rfl
theorem laidOut:laidOutB Tryz.prog=true:=by kernel_rfl
theorem cellsS:Tryz.prog.cellsOf 122=3:=by kernel_rfl
theorem cellsI:Tryz.prog.cellsOf 3=1:=by kernel_rfl
theorem cellsP:Tryz.prog.cellsOf 26=2:=by kernel_rfl
theorem cellsV:Tryz.prog.cellsOf 23=1:=by kernel_rfl
theorem cellsC:Tryz.prog.cellsOf 24=1:=by kernel_rfl
theorem bulk_pos {H:Type} (d:DataW H):1 <= Rows.uptoBulk d:=by
 cases d with
 | lit l=>cases l <;> simp only [Rows.uptoBulk] <;> omega
 | _=>simp only [Rows.uptoBulk] <;> omega
theorem bulk_len {H:Type}:∀ (l:List (DataW H)),l.length <= Rows.uptoBulkAll l
 | []=>by simp
 | d :: l=>by have:=bulk_len l;have:=bulk_pos d;simp only [Rows.uptoBulkAll,List.length_cons];omega
theorem list2 {α : Type} {l:List α} (h:l.length=2):∃ a b,l=[a,b]:=by
 match l,h with
 | [a,b],_=>exact ⟨a,b,rfl⟩
theorem list3 {α : Type} {l:List α} (h:l.length=3):∃ a b c,l=[a,b,c]:=by
 match l,h with
 | [a,b,c],_=>exact ⟨a,b,c,rfl⟩
theorem open_span {H:Type} {enc:TypeId × Value -> H} {w:World} {base:Nat} {spare:Nat -> Bool} {held:Bool} {fuel:Nat} {cs:List Value} {x:DataW H × List MemPlace}
  (h:DataW.trod enc Tryz.prog w base spare held fuel 122 cs=some x):∃ e:Sn,cs=(SC e).toList:=by
 obtain ⟨xs,m,_,hx,hcl,hxl,hf⟩:=DataW.trod_struct Tryz.underlying122 h;obtain ⟨v0,v1,v2,rfl⟩:=list3 (hcl.trans cellsS);obtain ⟨y0,y1,y2,rfl⟩:=list3 hxl;have t0:=hf 0 _ rfl;have t1:=hf 1 _ rfl;have t2:=hf 2 _ rfl;simp [cellsI] at t0 t1 t2;obtain ⟨r,e0,-,_⟩:=DataW.trod_int Tryz.underlying3 t0;obtain ⟨n,e1,-,_⟩:=DataW.trod_int Tryz.underlying3 t1;obtain ⟨m',e2,-,_⟩:=DataW.trod_int Tryz.underlying3 t2;simp only [List.cons.injEq,and_true] at e0 e1 e2;subst e0 e1 e2;exact ⟨⟨r,n,m'⟩,rfl⟩
theorem viewI {H:Type} {enc:TypeId × Value -> H} {W:World} {fuel:Nat} {v:Value} {x:DataW H × List MemPlace}
  (h:DataW.trod enc Tryz.prog W 0 (fun _=>true) true fuel 23 [v]=some x) (hw:Rows.uptoBulk x.1 <= 1048576):∃ (ao:Option Addr) (n cap:Nat) (Z:List Int),v = .slice ao n cap/\V.Src W ao n cap Z/\n <= 1048576:=by
 rcases DataW.trod_slice Tryz.underlying23 h with h0 | ⟨a,len,cap,elems,rest,n,_,hcs,hx,hb,hl,hm,hlen,hel,hsp,hns⟩
 ·have e:v = .slice none 0 0:=by simpa using h0.1
  exact ⟨none,0,0,[],e,⟨rfl,fun _=>⟨rfl,rfl⟩,fun ad h=>(by cases h)⟩,Nat.zero_le _⟩
 ·subst hx
  have e:v = .slice (some a) len cap:=by simpa using hcs
  simp only [Rows.uptoBulk] at hw;have h1:=bulk_len (elems.map (·.1));simp only [List.length_map] at h1
  have key:∀ i,i < len -> ∃ z:Int,W.cell? (a.add i)=some (.int .i64 z):=by
   intro i hi;have he:=hel i hi;obtain ⟨y,hy⟩:∃ y,elems[i]? = some y:=⟨_,List.getElem?_eq_getElem (by omega)⟩;rw [hy,cellsI,Option.bind_eq_some_iff] at he;obtain ⟨cs',hcs,hy'⟩:=he;obtain ⟨hl',-,hce⟩:=World.cells?_some hcs;obtain ⟨z,rfl,-,_⟩:=DataW.trod_int Tryz.underlying3 hy';have g0:=hce 0 (by omega);rw [add_zero,Nat.mul_one] at g0;exact ⟨z,g0⟩
  refine ⟨some a,len,cap,(List.range len).map fun i=>if h:i < len then Classical.choose (key i h) else 0,e,⟨by simp,fun h=>(by cases h),fun ad h t ht=>?_⟩,by omega⟩;obtain rfl:=Option.some.inj h
  have:((List.range len).map fun i=>if h:i < len then Classical.choose (key i h) else 0).getD t 0=Classical.choose (key t ht):=by simp [List.getD,ht]
  rw [this];exact Classical.choose_spec (key t ht)
theorem viewC {H:Type} {enc:TypeId × Value -> H} {W:World} {fuel:Nat} {v:Value} {x:DataW H × List MemPlace}
  (h:DataW.trod enc Tryz.prog W 0 (fun _=>true) true fuel 24 [v]=some x) (hw:Rows.uptoBulk x.1 <= 1048576):∃ (ao:Option Addr) (n cap:Nat) (L:List Sn),v = .slice ao n cap/\SSrc W ao n cap L/\n <= 1048576:=by
 rcases DataW.trod_slice Tryz.underlying24 h with h0 | ⟨a,len,cap,elems,rest,n,_,hcs,hx,hb,hl,hm,hlen,hel,hsp,hns⟩
 ·have e:v = .slice none 0 0:=by simpa using h0.1
  exact ⟨none,0,0,[],e,SSrc.empty _,Nat.zero_le _⟩
 ·subst hx
  have e:v = .slice (some a) len cap:=by simpa using hcs
  simp only [Rows.uptoBulk] at hw;have h1:=bulk_len (elems.map (·.1));simp only [List.length_map] at h1
  have key:∀ i,i < len -> ∃ e:Sn,SnAt W (a.add (i * 3)) e:=by
   intro i hi;have he:=hel i hi;obtain ⟨y,hy⟩:∃ y,elems[i]? = some y:=⟨_,List.getElem?_eq_getElem (by omega)⟩;rw [hy,cellsS,Option.bind_eq_some_iff] at he;obtain ⟨cs',hcs,hy'⟩:=he;obtain ⟨_,-,hce⟩:=World.cells?_some hcs;obtain ⟨e,rfl⟩:=open_span hy';have g0:=hce 0 (by omega);rw [add_zero] at g0;exact ⟨e,⟨g0,hce 1 (by omega),hce 2 (by omega)⟩⟩
  refine ⟨some a,len,cap,(List.range len).map fun i=>if h:i < len then Classical.choose (key i h) else sn0,e,⟨by simp,fun h=>(by cases h),fun ad h t ht=>?_,by omega,hl⟩,by omega⟩;obtain rfl:=Option.some.inj h
  have:((List.range len).map fun i=>if h:i < len then Classical.choose (key i h) else sn0).getD t sn0=Classical.choose (key t ht):=by simp [List.getD,ht]
  rw [this];exact Classical.choose_spec (key t ht)
theorem viewP {H:Type} {enc:TypeId × Value -> H} {W:World} {fuel:Nat} {cs:List Value} {x:DataW H × List MemPlace}
  (h:DataW.trod enc Tryz.prog W 0 (fun _=>true) true fuel 26 cs=some x) (hw:Rows.uptoBulk x.1 <= 1048576):∃ p:Pv,cs=[.slice p.vo p.vn p.vc,.slice p.co p.cn p.cc]/\PSrc W p/\p.P.cloud.length <= 1048576:=by
 obtain ⟨xs,m,_,hx,hcl,hxl,hf⟩:=DataW.trod_struct Tryz.underlying26 h;obtain ⟨v0,v1,rfl⟩:=list2 (hcl.trans cellsP);obtain ⟨y0,y1,rfl⟩:=list2 hxl;have t0:=hf 0 _ rfl;have t1:=hf 1 _ rfl;simp [cellsV,cellsC] at t0 t1;subst hx;simp only [Rows.uptoBulk,List.map_cons,List.map_nil,Rows.uptoBulkAll] at hw;obtain ⟨a0,l0,c0,Z,rfl,S0,g0⟩:=viewI t0 (by omega);obtain ⟨a1,l1,c1,L,rfl,S1,g1⟩:=viewC t1 (by omega);exact ⟨⟨a0,l0,c0,a1,l1,c1,⟨Z,L⟩⟩,rfl,⟨S0,S1,by show l0 <= _;omega⟩,by show L.length <= _;rw [S1.len];exact g1⟩
end
end Go.Proofs.YtaphmhbmhcahaaaGreat
namespace Go.Proofs.YtaphmhbmhcahaaaGreat.K
open Go.ChangeShapes Go.WideShapes Go.ChangeAt Go.RowKit Go.Joins

theorem laidOut:laidOutB Tryz.prog=true:=by kernel_rfl
theorem cells28:Tryz.prog.cellsOf 66=4:=by kernel_rfl
theorem cells26:Tryz.prog.cellsOf 43=2:=by kernel_rfl
theorem cells3:Tryz.prog.cellsOf 3=1:=by kernel_rfl
theorem cells9:Tryz.prog.cellsOf 9=1:=by kernel_rfl
theorem list2 {α : Type} {l:List α} (h:l.length=2):∃ a b,l=[a,b]:=by
 match l,h with
 | [a,b],_=>exact ⟨a,b,rfl⟩
theorem list3 {α : Type} {l:List α} (h:l.length=3):∃ a b c,l=[a,b,c]:=by
 match l,h with
 | [a,b,c],_=>exact ⟨a,b,c,rfl⟩
theorem list4 {α : Type} {l:List α} (h:l.length=4):∃ a b c d,l=[a,b,c,d]:=by
 match l,h with
 | [a,b,c,d],_=>exact ⟨a,b,c,d,rfl⟩
theorem open_entry {H:Type} {enc:TypeId × Value -> H} {w:World} {base:Nat} {spare:Nat -> Bool} {held:Bool} {fuel:Nat} {cs:List Value} {x:DataW H × List MemPlace}
  (h:DataW.trod enc Tryz.prog w base spare held fuel 66 cs=some x):∃ e:En,cs=(EC e).toList/\e.sku.size <= maxLen:=by
 obtain ⟨xs,m,_,hx,hcl,hxl,hf⟩:=DataW.trod_struct Tryz.underlying66 h;obtain ⟨v0,v1,v2,v3,rfl⟩:=list4 (hcl.trans cells28);obtain ⟨y0,y1,y2,rfl⟩:=list3 hxl;have t0:=hf 0 _ rfl;have t1:=hf 1 _ rfl;have t2:=hf 2 _ rfl;simp [cells3,cells9,cells26] at t0 t1 t2;obtain ⟨xs',m',_,hx',hcl',hxl',hf'⟩:=DataW.trod_struct Tryz.underlying43 t0;obtain ⟨z0,z1,rfl⟩:=list2 hxl';have s0:=hf' 0 _ rfl;have s1:=hf' 1 _ rfl;simp [cells3] at s0 s1;obtain ⟨r,e0,-,_⟩:=DataW.trod_int Tryz.underlying3 s0;obtain ⟨n,e1,-,_⟩:=DataW.trod_int Tryz.underlying3 s1;obtain ⟨s,e2,-,w2⟩:=DataW.trod_string Tryz.underlying9 t1;obtain ⟨q,e3,-,_⟩:=DataW.trod_int Tryz.underlying3 t2;simp only [List.cons.injEq,and_true] at e0 e1 e2 e3;subst e0 e1 e2 e3;exact ⟨⟨r,n,s,q⟩,rfl,w2⟩
end Go.Proofs.YtaphmhbmhcahaaaGreat.K
