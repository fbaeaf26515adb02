/- BCs SXj SXy SYa SXq SZa SZb TJn LOnr LRu TRj SXx SZc SZd SZe SZf TLv TCl TSr TMn TPs SXe SXs ZDg ZCk YDa YDb -/
import Derived.Test.YtcilfelgpmfehaaGreatBj31
import Derived.BigFrame
import Derived.Deep.CutRange
import Derived.Deep.MidRow
set_option maxRecDepth 100000
set_option maxHeartbeats 3200000
namespace Go.Proofs.YtcilfelgpmfehaaGreat
section
open Go.RowKit
variable {w w' W : World} {g : Nat}
structure Ks where
 ro:Option Addr
 rn:Nat
 rc:Nat
 qo:Option Addr
 qn:Nat
 qc:Nat
 ao:Option Addr
 an:Nat
 ac:Nat
 bo:Option Addr
 bn:Nat
 bc:Nat
 p:Pv
 o:Pv
def KsC (m:Ks):Array Value:=#[.slice m.ro m.rn m.rc,.slice m.qo m.qn m.qc,.slice m.ao m.an m.ac,.slice m.bo m.bn m.bc,.slice m.p.vo m.p.vn m.p.vc,.slice m.p.co m.p.cn m.p.cc,.slice m.o.vo m.o.vn m.o.vc,.slice m.o.co m.o.cn m.o.cc]
abbrev KsV (m:Ks):Value:=.agg (KsC m)
def RSm (R:List Rc):Prop:=R.length <= 209716/\∀ r∈R,r.p.P.cloud.length <= 1048576
structure KsS (w:World) (m:Ks) (R Q:List Rc) (A B:List K.En):Prop where
 r:RcS w m.ro m.rn m.rc R
 q:RcS w m.qo m.qn m.qc Q
 a:K.aF w m.ao m.an m.ac A
 b:K.aF w m.bo m.bn m.bc B
 p:ak w m.p
 o:ak w m.o
 sr:RSm R
 sq:RSm Q
 sa:m.an <= 1048576
 sb:m.bn <= 1048576
theorem zgZ (X:List Pv) (c:Nat) (h:∀ p∈X,p.P.cloud.length <= c):wt X <= X.length * (c+1):=by
 induction X with
 | nil=>exact Nat.zero_le _
 | cons p X ih =>
  have h1:=ih (fun q hq=>h q (List.mem_cons_of_mem _ hq));have h2:=h p List.mem_cons_self;simp only [wt,List.length_cons];rw [Nat.add_mul];omega
end
section
open Go.RowKit
structure SwB (N:Nat) (w:World) (s:Fc):Prop where
 ok:a8 w s
 row:FcR s
 rn:s.rn <= N * 209716
 an:s.an <= N * 1048576
 cl:∀ r∈s.rs,r.p.P.cloud.length <= 1048576
theorem SwB.below {N:Nat} {w w':World} {s:Fc} (h:SwB N w s) (hb:Below w.heap.size w w'):SwB N w' s:=⟨h.ok.below hb,h.row,h.rn,h.an,h.cl⟩
theorem zgq {R:List Rc} (hn:R.length <= 838864) (hc:∀ r∈R,r.p.P.cloud.length <= 1048576) (t:ByteArray):wt (ofS R t) <= 8796093022207:=by
 have h1:=zgZ (ofS R t) 1048576 (fun p hp=>by obtain ⟨r,hr,-,rfl⟩:=yL.1 hp;exact hc r hr);have h2:=yM R t;have h4:(ofS R t).length * (1048576+1) <= 838864 * (1048576+1):=Nat.mul_le_mul_right _ (by omega);omega
theorem zgH {n m:Nat} (hn:n <= 838864) (hm:m <= 4194304):n * (m+1) <= 8796093022207:=by
 have h3:n * (m+1) <= 838864 * (4194304+1):=Nat.mul_le_mul hn (by omega);omega
theorem SwB.u {N:Nat} {w:World} {s:Fc} (h:SwB N w s) (hN:N <= 4):SwU w s:=by
 have h1:=h.rn;have h2:=h.an;have h3:=h.ok.rs.len;exact ⟨h.ok,h.row,zgq (by omega) h.cl,zgH (by omega) (by omega),by omega⟩
open Classical in
theorem kD {α : Type}:∀ {X Y:List α},X.Nodup -> (∀ x∈X,x∈Y) -> X.length <= Y.length
 | [],_,_,_=>Nat.zero_le _
 | a :: X,Y,h,hs=>by
  obtain ⟨h1,h2⟩:=List.nodup_cons.1 h;have ha:=hs a List.mem_cons_self;have h3:=kD (Y:=Y.erase a) h2 (fun x hx=>(List.mem_erase_of_ne (fun e=>h1 (by rw [<- e];exact hx))).2 (hs x (List.mem_cons_of_mem _ hx)));have h4:=List.length_erase_of_mem ha;have h5:=List.length_pos_of_mem ha;rw [List.length_cons];omega
def SjD (a b s:Fc) (er:Int):Prop:=(¬ (aJ a/\aJ b)/\er=1/\s=fz0)∨((aJ a/\aJ b)/\∃ Z e,MgD a.es b.es a.p.P b.p.P Z e/\((e≠0/\er=e/\s=fz0)∨(e=0/\er=0/\∃ U,gS a.rs b.rs U/\s.es=Z.filter (cN U)/\ae (aA [a.p,b.p]) s.p.P/\gR U s.p.P s.rs)))
def SwJ (N:Nat) (w w':World) (e:Ending) (D:Fc -> Int -> Prop):Prop:=∃ s er,e = .returned (.tuple #[FaV (mkF s),.int .i64 er])/\SwB N w' s/\Below w.heap.size w w'/\D s er
def pJ (a b:Fc) (x:Int):Prop:=((aJ a/\aJ b)/\x=0)∨(¬ (aJ a/\aJ b)/\x=1)
theorem zdm (N:Nat) (w:World):SwB N w fz0:=⟨zdk w,zaS,Nat.zero_le _,Nat.zero_le _,fun r h=>(by cases h)⟩
theorem zex {A B Z:List K.En} {P O:Pst} (h:OkM A B P O) (ha:K.Asc Z) (hm:∀ x,x∈Z↔fK A B P O x):K.chk Z=0/\Z.length <= A.length+B.length:=by
 have hx:∀ x∈Z,x∈A∨x∈B:=fun x hx=>((hm x).1 hx).elim (fun k=>.inl k.1) (fun k=>.inr k.1);refine ⟨K.wo ha (fun x h1=>(hx x h1).elim (xN h.1 x) (xN h.2.1 x)),?_⟩;have h1:Z.Nodup:=ha.imp (fun {a b} dW e=>by subst e;rw [K.jD] at dW;cases dW);have h2:=kD (Y:=A++B) h1 (fun x h3=>List.mem_append.2 (hx x h3));rwa [List.length_append] at h2
theorem zgs {L M F:List Rc} (u:gS L M F) (hl:∀ r∈L,r.p.P.cloud.length <= 1048576) (hm:∀ r∈M,r.p.P.cloud.length <= 1048576):∀ r∈F,r.p.P.cloud.length <= 1048576:=fun r hr=>by
 have h1:rck r∈plR F:=List.mem_map.2 ⟨r,hr,rfl⟩;rcases (u.1.2 _).1 h1 with h | h
 ·obtain ⟨x,hx,e⟩:=List.mem_map.1 h;have e2:x.p.P=r.p.P:=congrArg Prod.snd e;rw [<- e2];exact hl x hx
 ·obtain ⟨x,hx,e⟩:=List.mem_map.1 h;have e2:x.p.P=r.p.P:=congrArg Prod.snd e;rw [<- e2];exact hm x hx
theorem zfl {L F:List Rc} {P:Pst} (h:gR L P F) (hl:∀ r∈L,r.p.P.cloud.length <= 1048576):∀ r∈F,r.p.P.cloud.length <= 1048576:=fun r hr=>by
 have h1:rck r∈plR F:=List.mem_map.2 ⟨r,hr,rfl⟩;rw [h.2] at h1;obtain ⟨x,hx,e⟩:=List.mem_map.1 (List.mem_filter.1 h1).1;have e2:x.p.P=r.p.P:=congrArg Prod.snd e;rw [<- e2];exact hl x hx
theorem nA (w:World) (f g:Fc):∃ wk,(w.alloc (.cells (FaC (mkF f)) 38)).alloc (.cells (FaC (mkF g)) 38)=wk/\Hid (aI wk w.heap.size (mkF f))/\Hid (aI wk (w.heap.size+1) (mkF g))/\Hid (Below w.heap.size w wk)/\wk.heap.size=w.heap.size+2:=by
 have b1:=ze w (.cells (FaC (mkF f)) 38);have b2:=ze (w.alloc (.cells (FaC (mkF f)) 38)) (.cells (FaC (mkF g)) 38);have X2:=qD (w.alloc (.cells (FaC (mkF f)) 38)) (mkF g);rw [World.size_alloc] at X2;exact ⟨_,rfl,(qD w (mkF f)).below b2,X2,b1.trans (b2.mono b1.size),by simp⟩
attribute [local go_sem ↓] zl zk zK zJ xm x4
attribute [local go_sem] zf zh zj zr zF qG xQ qV zw
theorem zbR (a b:Fc) (w:World) (hA:SwU w a) (hB:SwU w b):Calls Tryz.prog 41 #[FaV (mkF a),FaV (mkF b)] w fun e w'=>cS w w' e (pJ a b):=by
 obtain ⟨wk,cq,HX,HY,az,-⟩:=nA w a b;obtain ⟨G,dC⟩:∃ G,w.heap.size=G:=⟨_,rfl⟩;rw [dC] at HX HY;have HA:=hide (hA.below az.out);have HB:=hide (hB.below az.out);have l1:=z6 HX.out;clear hA hB;go_enter Tryz.func41,Tryz.ntmps41;go_wp2_with fail;clear cq dC l1;refine HA.out.chk.mono ?_;rintro e w3 ⟨x,rfl,hx,b3⟩;have aN:=wTr az b3;have l2:=z6 (HY.out.below b3);have MV:=hide (HB.out.below b3);clear b3;rcases hx with ⟨hf,rfl⟩ | ⟨hf,rfl⟩;rotate_left
 ·have HE:Hid (cS w w3 (.returned (.int .i64 1)) (pJ a b)):=⟨1,rfl,.inr ⟨fun h=>hf h.1,rfl⟩,aN.out⟩;clear hf l2;go_wp2_with fail;go_ret;exact HE.out
 have Ff:=hide hf;clear hf;go_wp2_with fail;clear l2;refine MV.out.chk.mono ?_;rintro e w4 ⟨x,rfl,hx,b4⟩;have HE:Hid (cS w w4 (.returned (.int .i64 x)) (pJ a b)):=⟨x,rfl,hx.elim (fun h=>.inl ⟨⟨Ff.out,h.1⟩,h.2⟩) (fun h=>.inr ⟨fun k=>h.1 k.2,h.2⟩),aN.out.trans (b4.mono aN.out.size)⟩;clear b4 hx;go_wp2_with fail;go_ret;exact HE.out
end
section
open Go.RowKit
structure Ab where
 L:List K.En
 P:Pst
 R:List Rp
def ab (s:Fc):Ab:=⟨s.es,s.p.P,plR s.rs⟩
def Ia (y:Rp):Prop:=fd y.1=true/\lX y.2
def lR (r:Rp) (e:K.En):Bool:=(decide (r.1.size=0) || (r.1.toList == e.sku.toList)) && inB r.2 e
def eI (R:List Rp) (e:K.En):Prop:=∀ r∈R,lR r e=false
theorem j1 (R:List Rc) (e:K.En):cN R e=true↔eI (plR R) e:=by
 unfold cN eI;rw [Bool.not_eq_true',List.any_eq_false];constructor
 ·intro h r hr;obtain ⟨x,hx,rfl⟩:=List.mem_map.1 hr;exact Bool.eq_false_iff.2 (h x hx)
 ·intro h x hx;exact Bool.eq_false_iff.1 (h (rck x) (List.mem_map.2 ⟨x,hx,rfl⟩))
structure FmA (x:Ab):Prop where
 c:K.chk x.L=0
 p:af x.P
 r:(∀ y∈x.R,Ia y)/\Srt ck x.R
 h:∀ e∈x.L,inB x.P e=true
 w:∀ y∈x.R,¬ wiP y.2 x.P
 f:∀ e∈x.L,eI x.R e
theorem wd {w:World} {s:Fc} (hF:a8 w s):aJ s↔FmA (ab s):=by
 have hl:=hF.es.1;have hr:=hF.rs.len;constructor
 ·rintro ⟨⟨h1,h2,h3⟩,h4,h5,h6⟩;rw [<- hr] at h3;obtain ⟨h7,h8⟩:=ji.1 h3;refine ⟨(xk hl).2 h1,h2,⟨fun y hy=>?_,h8⟩,h4,fun y hy=>?_,fun e he=>(j1 _ _).1 (h6 e he)⟩
  ·obtain ⟨x,hx,rfl⟩:=List.mem_map.1 hy;exact h7 x hx
  ·obtain ⟨x,hx,rfl⟩:=List.mem_map.1 hy;exact h5 x hx
 ·intro h;refine ⟨⟨(xk hl).1 h.c,h.p,?_⟩,h.h,fun r hr=>h.w (rck r) (List.mem_map.2 ⟨r,hr,rfl⟩),fun e he=>(j1 _ _).2 (h.f e he)⟩;rw [<- hr];exact ji.2 ⟨fun r hr=>h.r.1 (rck r) (List.mem_map.2 ⟨r,hr,rfl⟩),h.r.2⟩
def enD (r:Nat) (n:Int):K.En:=⟨(r:Int),n,⟨#[]⟩,0⟩
theorem zbz {P:Pst} {r:Nat} (hr:r < 16) {n:Int}:inB P (enD r n)=true↔mem (aa P r) n:=by
 rw [qk];unfold cu enD
 have h:V.isR (r:Int)=true:=by simp [V.isR];omega
 simp [h]
theorem wE {A P:Pst}:wiP A P↔∀ e,inB A e=true -> inB P e=true:=by
 constructor
 ·intro h e he;rw [qk] at he ⊢;obtain ⟨h1,h2⟩:=he
  have h4:0 <= e.rep/\e.rep < 16:=by simpa [V.isR] using h1
  exact ⟨h1,h _ (by show e.rep.toNat < 16;omega) _ h2⟩
 ·intro h r hr n hm;exact (zbz hr).1 (h (enD r n) ((zbz hr).2 hm))
theorem zfP {P Q:Pst} (hp:af P) (hq:af Q) (h:∀ e,inB P e=true↔inB Q e=true):P=Q:=
 (zz.2 hp:ae (aa P) P).unique (zz.2 hq:ae (aa Q) Q) fun r hr n=>by
  rw [<- zbz hr,<- zbz hr];exact h _
structure JnA (x y z:Ab):Prop where
 a:K.Asc z.L
 l:∀ e,e∈z.L↔fK x.L y.L x.P y.P e/\eI x.R e/\eI y.R e
 p:af z.P
 d:∀ e,inB z.P e=true↔inB x.P e=true∨inB y.P e=true
 s:Srt ck z.R
 r:∀ q,q∈z.R↔(q∈x.R∨q∈y.R)/\¬ wiP q.2 z.P
theorem zdR {x y:Ab} (h1:x.L=y.L) (h2:x.P=y.P) (h3:x.R=y.R):x=y:=by
 cases x;cases y;simp_all
theorem JnA.uniq {x y z z':Ab} (h:JnA x y z) (k:JnA x y z'):z=z':=by
 have hP:z.P=z'.P:=zfP h.p k.p fun e=>(h.d e).trans (k.d e).symm;refine zdR (K.yt h.a k.a fun e=>(h.l e).trans (k.l e).symm) hP (Srt.uniq kT h.s k.s fun q=>?_);rw [h.r,k.r,hP]
theorem zae {A B:List K.En} {P O:Pst} {e:K.En}:fK A B P O e↔fK B A O P e:=or_comm
theorem JnA.comm {x y z:Ab} (h:JnA x y z):JnA y x z:=
 ⟨h.a,fun e=>(h.l e).trans ⟨fun k=>⟨zae.1 k.1,k.2.2,k.2.1⟩,fun k=>⟨zae.1 k.1,k.2.2,k.2.1⟩⟩,h.p,fun e=>(h.d e).trans or_comm,h.s,fun q=>(h.r q).trans ⟨fun k=>⟨k.1.symm,k.2⟩,fun k=>⟨k.1.symm,k.2⟩⟩⟩
theorem zar {P:Pst} {a b:Pv} (h:ae (aA [a,b]) P) (e:K.En):inB P e=true↔inB a.P e=true∨inB b.P e=true:=by
 rw [qk,qk,qk];unfold cu;by_cases h1:V.isR e.rep=true
 ·have h4:0 <= e.rep/\e.rep < 16:=by simpa [V.isR] using h1
  have hr:e.rep.toNat < 16:=by omega
  simp only [h1,true_and];rw [zV h _ hr,jH];simp
 ·simp [h1]
theorem zfD {s:Fc} {w:World} (hF:a8 w s) (h:aJ s):K.chk s.es=0:=(xk hF.es.1).2 h.1.1
theorem zba {wa wb:World} {a b s:Fc} {er:Int} (hA:a8 wa a) (hB:a8 wb b) (h:SjD a b s er):(¬ (aJ a/\aJ b)/\er=1/\s=fz0)∨((aJ a/\aJ b)/\K.aV (a.es++b.es)/\er=10/\s=fz0)∨((aJ a/\aJ b)/\¬ K.aV (a.es++b.es)/\er=0/\JnA (ab a) (ab b) (ab s)):=by
 rcases h with h | ⟨hf,Z,e,hm,h⟩
 ·exact .inl h
 right;rcases hm with ⟨h1,-,rfl⟩ | ⟨h1,h2,-,rfl⟩ | ⟨h1,h2,rfl,h3,h4⟩
 ·refine absurd ⟨?_,?_,hf.1.1.2.1,hf.2.1.2.1⟩ h1
  ·exact zfD hA hf.1
  ·exact zfD hB hf.2
 ·rcases h with ⟨-,rfl,rfl⟩ | ⟨h,-⟩
  ·exact .inl ⟨hf,h2,rfl,rfl⟩
  ·cases h
 ·rcases h with ⟨h,-⟩ | ⟨-,rfl,U,hU,h5,h6,h7⟩
  ·exact absurd rfl h
  refine .inr ⟨hf,h2,rfl,?_,fun e=>?_,?_,zar h6,?_,fun q=>?_⟩
  ·show K.Asc s.es
   rw [h5];exact h3.sublist List.filter_sublist
  ·show e∈s.es↔_
   rw [h5,List.mem_filter,h4,j1];refine and_congr_right fun _=>?_;constructor
   ·intro k;exact ⟨fun r hr=>k r ((hU.1.2 r).2 (.inl hr)),fun r hr=>k r ((hU.1.2 r).2 (.inr hr))⟩
   ·intro k r hr;exact ((hU.1.2 r).1 hr).elim (k.1 r) (k.2 r)
  ·exact zz.1 h6.canon
  ·show Srt ck (plR s.rs)
   rw [h7.2];exact List.Pairwise.sublist List.filter_sublist hU.1.1
  ·show q∈plR s.rs↔_
   rw [h7.2,List.mem_filter,hU.1.2];refine and_congr_right fun _=>?_;unfold waitB;simp;rfl
end
section
open Go.RowKit
theorem bs {R:List K.En} (h:K.Asc R) {x y:K.En} (hx:x∈R) (hy:y∈R) (hs:K.aj x y=true):x=y:=
 Classical.byContradiction fun aT=>K.j7 h (fun _=>Iff.rfl) ⟨x,hx,y,hy,hs,aT⟩
theorem zfL {A B:List K.En} (hc:¬ K.aV (A++B)) {x y:K.En} (hx:x∈A) (hy:y∈B) (h:K.aj y x=true):y=x:=by
 refine Classical.byContradiction fun aT=>hc ⟨y,List.mem_append.2 (.inr hy),x,List.mem_append.2 (.inl hx),h,aT⟩
theorem vk {A B:List K.En} {O:Pst} (hc:¬ K.aV (A++B)) {x:K.En} (hx:x∈A):lY B O x=true↔(inB O x=true -> x∈B):=by
 unfold lY;rw [Bool.or_eq_true,List.any_eq_true,Bool.not_eq_true'];constructor
 ·rintro (⟨y,hy,h⟩ | h) k
  ·rw [<- zfL hc hx hy h];exact hy
  ·rw [k] at h;cases h
 ·intro h;by_cases k:inB O x=true
  ·exact .inl ⟨x,h k,by simp [K.aj]⟩
  ·exact .inr (Bool.eq_false_iff.2 k)
theorem yl {A B:List K.En} (hc:¬ K.aV (A++B)):¬ K.aV (B++A):=fun h=>hc (zcn h)
theorem yR {A B:List K.En} {P O:Pst} (hc:¬ K.aV (A++B)) {e:K.En}:fK A B P O e↔(e∈A∨e∈B)/\(inB P e=true -> e∈A)/\(inB O e=true -> e∈B):=by
 unfold fK;constructor
 ·rintro (⟨h1,h2⟩ | ⟨h1,h2⟩)
  ·exact ⟨.inl h1,fun _=>h1,(vk hc h1).1 h2⟩
  ·exact ⟨.inr h1,(vk (yl hc) h1).1 h2,fun _=>h1⟩
 ·rintro ⟨h1 | h1,h2,h3⟩
  ·exact .inl ⟨h1,(vk hc h1).2 h3⟩
  ·exact .inr ⟨h1,(vk (yl hc) h1).2 h2⟩
theorem FmA.asc {x:Ab} (h:FmA x):K.Asc x.L:=K.kx h.c
theorem FmA.ce {x:Ab} (h:FmA x):∀ e∈x.L,K.ceE e=0:=xN h.c
def NoC (x y:Ab):Prop:=¬ K.aV (x.L++y.L)
theorem zgG {x y:Ab} (hx:K.Asc x.L) (hy:K.Asc y.L) (h:∀ a∈x.L,∀ b∈y.L,K.aj a b=true -> a=b):NoC x y:=by
 rintro ⟨a,ha,b,hb,hs,aT⟩
 have sw:∀ p q:K.En,K.aj p q=true -> K.aj q p=true:=fun p q h=>by
  unfold K.aj at h ⊢;rw [Bool.and_eq_true,beq_iff_eq,beq_iff_eq] at h ⊢;exact ⟨h.1.symm,h.2.symm⟩
 rcases List.mem_append.1 ha with ha | ha <;> rcases List.mem_append.1 hb with hb | hb
 ·exact aT (bs hx ha hb hs)
 ·exact aT (h a ha b hb hs)
 ·exact aT (h b hb a ha (sw _ _ hs)).symm
 ·exact aT (bs hy ha hb hs)
theorem zbq {x:Ab} (h:FmA x):NoC x x:=zgG h.asc h.asc fun _ ha _ hb hs=>bs h.asc ha hb hs
theorem NoC.at {x y:Ab} (h:NoC x y) {a b:K.En} (ha:a∈x.L) (hb:b∈y.L) (hs:K.aj a b=true):a=b:=
 Classical.byContradiction fun aT=>h ⟨a,List.mem_append.2 (.inl ha),b,List.mem_append.2 (.inr hb),hs,aT⟩
theorem JnA.live {x y z:Ab} (h:JnA x y z) (hc:NoC x y) (e:K.En):e∈z.L↔((e∈x.L∨e∈y.L)/\(inB x.P e=true -> e∈x.L)/\(inB y.P e=true -> e∈y.L))/\eI x.R e/\eI y.R e:=by
 rw [h.l,yR hc]
theorem JnA.from_ {x y z:Ab} (h:JnA x y z) {e:K.En} (he:e∈z.L):e∈x.L∨e∈y.L:=((h.l e).1 he).1.imp And.left And.left
theorem zf3 {x y z:Ab} (h:JnA x y z) {e:K.En} (h1:eI x.R e) (h2:eI y.R e):eI z.R e:=fun q hq=>((h.r q).1 hq).1.elim (h1 q) (h2 q)
theorem zdv {q:Rp} {e:K.En} (h:lR q e=true):inB q.2 e=true:=by unfold lR at h;rw [Bool.and_eq_true] at h;exact h.2
theorem JnA.form {x y z:Ab} (h:JnA x y z) (hx:FmA x) (hy:FmA y):FmA z:=by
 refine ⟨K.wo h.a fun e he=>(h.from_ he).elim (hx.ce e) (hy.ce e),h.p,⟨fun q hq=>((h.r q).1 hq).1.elim (hx.r.1 q) (hy.r.1 q),h.s⟩,fun e he=>(h.d e).2 ((h.from_ he).imp (hx.h e) (hy.h e)),fun q hq=>((h.r q).1 hq).2,fun e he=>?_⟩;have:=(h.l e).1 he;exact zf3 h this.2.1 this.2.2
theorem zbx {x y:Ab} (hx:FmA x) (hy:FmA y) (hc:NoC x y):JnA x y y↔(∀ e,inB x.P e=true -> inB y.P e=true)/\(∀ q∈x.R,¬ wiP q.2 y.P -> q∈y.R)/\(∀ e∈y.L,inB x.P e=true -> e∈x.L)/\∀ e∈y.L,eI x.R e:=by
 constructor
 ·intro h;refine ⟨fun e he=>(h.d e).2 (.inl he),fun q hq hw=>(h.r q).2 ⟨.inl hq,hw⟩,fun e he=>?_,fun e he=>?_⟩
  ·exact ((h.live hc e).1 he).1.2.1
  ·exact ((h.live hc e).1 he).2.1
 ·rintro ⟨h1,h2,h3,h4⟩;refine ⟨hy.asc,fun e=>?_,hy.p,fun e=>⟨.inr,fun k=>k.elim (h1 e) id⟩,hy.r.2,fun q=>⟨fun k=>⟨.inr k,hy.w q k⟩,fun k=>k.1.elim (fun m=>h2 q m k.2) id⟩⟩;rw [yR hc];constructor
  ·intro k;exact ⟨⟨.inr k,h3 e k,fun _=>k⟩,h4 e k,hy.f e k⟩
  ·rintro ⟨⟨k1 | k1,-,k3⟩,-⟩
   ·exact k3 (h1 e (hx.h e k1))
   ·exact k1
theorem le_refl {x:Ab} (hx:FmA x):JnA x x x:=(zbx hx hx (zbq hx)).2 ⟨fun _ h=>h,fun _ h _=>h,fun _ h _=>h,hx.f⟩
theorem le_trans {x y z:Ab} (hx:FmA x) (hy:FmA y) (hz:FmA z) (c1:NoC x y) (c2:NoC y z) (c3:NoC x z) (h1:JnA x y y) (h2:JnA y z z):JnA x z z:=by
 obtain ⟨a1,a2,a3,a4⟩:=(zbx hx hy c1).1 h1;obtain ⟨b1,b2,b3,b4⟩:=(zbx hy hz c2).1 h2;refine (zbx hx hz c3).2 ⟨fun e h=>b1 e (a1 e h),fun q hq hw=>?_,fun e he hi=>a3 e (b3 e he (a1 e hi)) hi,fun e he q hq=>?_⟩
 ·exact b2 q (a2 q hq fun k=>hw (wE.2 fun e h=>b1 e (wE.1 k e h))) hw
 ·refine Bool.eq_false_iff.2 fun A6=>?_;by_cases hw:wiP q.2 y.P
  ·have hi:=wE.1 hw e (zdv A6);have:=a4 e (b3 e he hi) q hq;rw [A6] at this;cases this
  ·have:=b4 e he q (a2 q hq hw);rw [A6] at this;cases this
def ab0:Ab:=⟨[],pv0.P,[]⟩
end
section
open Go.RowKit
theorem DM (w:World) (f g:Fc):∃ wk,(w.alloc (.cells (FaC (mkF f)) 38)).alloc (.cells (FaC (mkF g)) 38)=wk/\Hid (aI wk w.heap.size (mkF f))/\Hid (aI wk (w.heap.size+1) (mkF g))/\Hid (Below w.heap.size w wk):=by
 have b1:=ze w (.cells (FaC (mkF f)) 38);have b2:=ze (w.alloc (.cells (FaC (mkF f)) 38)) (.cells (FaC (mkF g)) 38);have X2:=qD (w.alloc (.cells (FaC (mkF f)) 38)) (mkF g);rw [World.size_alloc] at X2;exact ⟨_,rfl,(qD w (mkF f)).below b2,X2,b1.trans (b2.mono b1.size)⟩
def EqS (f g:Fc):Prop:=f.es=g.es/\f.p.P=g.p.P/\plR f.rs=plR g.rs
attribute [local go_sem ↓] zl zk zK zJ K.zu K.zt K.ql
attribute [local go_sem] zf zh zj zr K.yX K.zC K.zs
end
section
open Go.RowKit
def EnU (A B R:List K.En) (ok:Bool):Prop:=(ok=false/\K.aV (A++B))∨(ok=true/\¬ K.aV (A++B)/\K.Asc R/\∀ e,e∈R↔e∈A∨e∈B)
def EnG (w w':World) (x:Ending) (A B:List K.En):Prop:=∃ o q k R ok,x = .returned (.tuple #[.slice o q k,.bool ok])/\K.aF w' o q k R/\Below w.heap.size w w'/\EnU A B R ok
structure EnM (A B:List K.En) (i j:Nat) (D:List K.En):Prop where
 p:K.Asc (D++A.drop i)
 q:K.Asc (D++B.drop j)
 m:∀ e,(e∈D∨e∈A.drop i∨e∈B.drop j)↔e∈A∨e∈B
 l:D.length <= i+j
theorem EnM.symm {A B D:List K.En} {i j:Nat} (h:EnM A B i j D):EnM B A j i D:=
 ⟨h.q,h.p,fun e=>by have:=h.m e;constructor <;> intro k <;> (have t1:=this.1;have t2:=this.2;grind),by have:=h.l;omega⟩
theorem EnM.none {B:List K.En} {j:Nat} {x:K.En} (hj:j=B.length):∀ y∈B.drop j,K.ahead x y=true:=fun y hy=>by
 rw [hj,List.drop_length] at hy;cases hy
attribute [local go_sem ↓] qg qf K.zu K.zt
attribute [local go_sem] zD zN zZ qr K.zC K.zs K.zB K.xX
end
section
open Go.RowKit
section
attribute [local go_sem ↓] zl zk zR zQ
attribute [local go_sem] zy zH zT
end
def RcG (w w':World) (x:Ending) (A B:List Rc):Prop:=∃ (h:Hs) (F:List Rc),x = .returned (HsV h)/\RcS w' h.o h.n h.c F/\Below w.heap.size w w'/\gS A B F/\h.n <= A.length+B.length
attribute [local go_sem ↓] zl zk zR zQ
attribute [local go_sem] zy zH zT
end
section
open Go.RowKit
attribute [local go_sem ↓] zl zk zM zL jC x4
attribute [local go_sem] zf zh zj zr zF kc wY qG
theorem zcA (f g:Fc) (w:World) (hF:a8 w f) (hG:a8 w g) (hf:FcR f) (hg:FcR g) (lC:f.rn+g.rn <= 2199023255551) :
  Calls Tryz.prog 8 #[FaV (mkF f),FaV (mkF g)] w fun e w'=>FcD w w' e (sL 0 f g):=by
 obtain ⟨w2,eZ,dN,Gw,cd⟩:=tF w f g;have b3:=ze w2 (.cells (FaC (mkF fz0)) 29);have X3:=zP w2 (mkF fz0)
 have ia:w2.heap.size=w.heap.size+2:=by rw [<- eZ];simp
 obtain ⟨wk,cq⟩:∃ wk,w2.alloc (.cells (FaC (mkF fz0)) 29)=wk:=⟨_,rfl⟩;rw [cq] at b3 X3;rw [ia] at X3;obtain ⟨G,dC⟩:∃ G,w.heap.size=G:=⟨_,rfl⟩;rw [dC] at X3 dN Gw;have HX:=hide (dN.out.below b3);have HY:=hide (Gw.out.below b3);have HZ:=hide X3;have az:=wTr cd b3;have HF:=hide (hF.below az.out);have HG:=hide (hG.below az.out);have HR:Hid (FcR f/\FcR g/\f.rn+g.rn <= 2199023255551):=⟨hf,hg,lC⟩;have iP:Hid (w.heap.size=G):=dC;clear hF hG hf hg lC b3 X3 dN Gw cd;have lf:=qd HX.out;have lg:=qd HY.out;go_enter Tryz.func8,Tryz.ntmps8;go_wp2_with fail;clear eZ cq ia dC;refine (bf f g _ HF.out HG.out).mono ?_;rintro e w3 ⟨x,rfl,hx,b3⟩;have aN:=wTr az b3;have ex:=hide (HX.out.below b3);have IF:=hide (HY.out.below b3);have ru:=hide (HZ.out.below b3);have sl:=hide (HF.out.below b3)
 have Kn:=hide (HG.out.below b3);clear b3 lf lg;rcases hx with ⟨rfl,h1,h2⟩ | ⟨rfl,h1⟩;rotate_left
 ·have st0:=xp (m':=mkF fz0) ru.out;have HE:=hide (zaR (w:=w) (f:=fz0) (er:=1) (sL 0 f g) ru.out (zdk _) zaS (zdl _) aN.out (by rw [iP.out];omega) (.inl ⟨h1,rfl,rfl⟩));clear h1;go_wp2_with fail;clear st0;refine bodyPost_ret (mM rfl rfl rfl HE.out.1) rfl ?_;exact HE.out.2
 have iI:Hid (aB f/\aB g):=⟨h1,h2⟩;obtain ⟨c0,c3⟩:=ex.out.cs;obtain ⟨d0,d3⟩:=IF.out.cs;clear h1 h2;go_wp2_with fail;clear c0 c3 d0 d3;refine (K.wF f.ao g.ao f.an f.ac g.an g.ac f.es g.es _ sl.out.es Kn.out.es).mono ?_;rintro e w4 ⟨ao,n,c,R,er,rfl,S4,b4,n4,u4⟩;have aR:=wTr aN b4;have eC:=hide (ex.out.below b4);have Js:=hide (IF.out.below b4);have D8:=hide (ru.out.below b4);have II:=hide (sl.out.below b4);have Jb:=hide (Kn.out.below b4);have iK:=hide S4;have MU:Hid (∀ ad,ao=some ad -> G+3 <= ad.block):=fun ad e=>Nat.le_trans (by have:=ru.out.lt;omega) (n4 ad e);have iL:=hide u4;clear b4 S4 n4 u4;by_cases h0:er=0;rotate_left
 ·have aT:(er != 0)=true:=by simp [h0]
  have st0:=xp (m':=mkF fz0) D8.out;have HE:=hide (zaR (w:=w) (f:=fz0) (er:=er) (sL 0 f g) D8.out (zdk _) zaS (zdl _) aR.out (by rw [iP.out];omega) (.inr ⟨iI.out.1,iI.out.2,R,er,iL.out,.inl ⟨h0,by rw [if_pos rfl],rfl⟩⟩));clear h0;go_wp2_with fail;clear st0;refine bodyPost_ret (mM rfl rfl rfl HE.out.1) rfl ?_;exact HE.out.2
 subst h0;obtain ⟨-,c3⟩:=eC.out.cs;obtain ⟨-,d3⟩:=Js.out.cs;go_wp2_with fail;clear c3 d3;refine (km f.ro g.ro f.rn f.rc g.rn g.rc f.rs g.rs _ (II.out.row HR.out.1) (Jb.out.row HR.out.2.1) HR.out.2.2).mono ?_;rintro e w5 (⟨-,-,h5,F5,rfl,G5,m5,U5⟩ | ⟨hno,-⟩);rotate_left
 ·exact absurd ⟨iI.out.1.2.2,iI.out.2.2.2⟩ hno
 have b5:=G5.below;have ee:=wTr aR b5;have mW:=hide (eC.out.below b5);have BG:=hide (Js.out.below b5);have Hf:=hide (D8.out.below b5);have Mi:=hide (II.out.below b5);have LE:=hide (Jb.out.below b5);have uL:=hide (iK.out.below b5)
 have hz:G+3 <= w4.heap.size:=by have:=D8.out.lt;omega
 have Gh:Hid (RcT w5 h5.o h5.n h5.c F5/\(∀ ad,h5.o=some ad -> G+3 <= ad.block)/\(∀ r∈F5,de (G+3) r.p)):=⟨G5.row,fun ad e=>Nat.le_trans hz (G5.new ad e),fun r hr=>(G5.fresh r hr).mono hz⟩;have rZ:Hid (gS f.rs g.rs F5/\h5.n <= f.rn+g.rn):=⟨U5,m5⟩;clear b5 G5 U5 m5 hz;obtain ⟨pT,rR,rL⟩:=h5;rw [show HsV ⟨pT,rR,rL⟩=Value.slice pT rR rL from rfl];have lp:=zi mW.out.past;have lq:=zi BG.out.past;have nk:=pI w5 f.p g.p Mi.out.p LE.out.p;have b6:=ze w5 (.cells #[.slice f.p.vo f.p.vn f.p.vc,.slice f.p.co f.p.cn f.p.cc,.slice g.p.vo g.p.vn g.p.vc,.slice g.p.co g.p.cn g.p.cc] 26);have lb:=qG f.p g.p w5;obtain ⟨g6,lK⟩:∃ g6,w5.heap.size=g6:=⟨_,rfl⟩;obtain ⟨w6,BU⟩:∃ w6,w5.alloc (.cells #[.slice f.p.vo f.p.vn f.p.vc,.slice f.p.co f.p.cn f.p.cc,.slice g.p.vo g.p.vn g.p.vc,.slice g.p.co g.p.cn g.p.cc] 26)=w6:=⟨_,rfl⟩
 rw [BU] at nk b6 lb;rw [lK] at nk lb;have Bk:=hide nk;have gJ:=wTr ee b6;have uH:=hide (Hf.out.below b6);have LN:=hide (uL.out.below b6);have rh:Hid (RcT w6 pT rR rL F5/\(∀ ad,pT=some ad -> G+3 <= ad.block)/\(∀ r∈F5,de (G+3) r.p)):=⟨Gh.out.1.below b6,Gh.out.2.1,Gh.out.2.2⟩;clear nk b6 lK BU;go_wp2_with fail;clear lp lq lb;refine (qz (some ⟨g6,0,none⟩) 2 2 [f.p,g.p] _ Bk.out (za1 iI.out.1.2.1 iI.out.2.2.1) (by decide)).mono ?_;rintro e w7 ⟨q,rfl,S7,N7,b7,C7⟩
 have EY:G+3 <= w6.heap.size:=by have:=uH.out.lt;omega
 have MY:Hid (a8 w7 ⟨ao,n,c,R,q,pT,rR,rL,F5⟩):=⟨LN.out.below b7,S7,(rh.out.1.below b7).src⟩;have Gu:Hid (FcN (G+2+1) ⟨ao,n,c,R,q,pT,rR,rL,F5⟩):=⟨MU.out,N7.mono EY,rh.out.2.1,rh.out.2.2⟩;have uh:=hide (uH.out.below b7);have cM:=wTr gJ b7;have stz:=xp (m':=mkF ⟨ao,n,c,R,q,pT,rR,rL,F5⟩) uh.out;have HE:=hide (zaR (w:=w) (f:=⟨ao,n,c,R,q,pT,rR,rL,F5⟩) (er:=0) (sL 0 f g) uh.out MY.out ⟨rh.out.1.room,rh.out.1.nil⟩ Gu.out cM.out (by rw [iP.out];omega) (.inr ⟨iI.out.1,iI.out.2,R,0,iL.out,.inr ⟨rfl,rfl,rfl,C7,rZ.out⟩⟩));clear S7 N7 b7 C7 EY;replace stz:(mJ (.pointer (some ⟨G+2,0,none⟩)) (.agg #[.slice ao n c,.slice q.vo q.vn q.vc,.slice q.co q.cn q.cc,.slice pT rR rL])).run Tryz.prog w7 = .ok () (w7.setRow (G+2) (FaC (mkF ⟨ao,n,c,R,q,pT,rR,rL,F5⟩))):=stz
 go_wp2_with fail;clear stz;refine bodyPost_ret (mM rfl rfl rfl HE.out.1) rfl ?_;exact HE.out.2
end
end Go.Proofs.YtcilfelgpmfehaaGreat
namespace Go.Proofs.YtcilfelgpmfehaaGreat.K
section
open Go.RowKit
attribute [local go_sem ↓] zu zt qO
attribute [local go_sem] zC zs zB xX
attribute [local go_sem ↓] ql xT
end
section
open Go.RowKit Go.Lib
attribute [local go_sem ↓] zu zt
attribute [local go_sem] zC zs zB xX
end
end Go.Proofs.YtcilfelgpmfehaaGreat.K
namespace Go.Proofs.YtcilfelgpmfehaaGreat
section
open Go.RowKit
theorem aD.ne {W:World} {g:Nat} {m:ct} (A:aD W g m) {a:Addr} {v:Value} (hc:W.cell? a=some v) (hv:∀ o n c,v ≠ .slice o n c):a.block≠g:=by
 rintro rfl;obtain ⟨b,o,k⟩:=a;unfold aD at A;have h:=World.cell?_spot hc;obtain rfl:k=none:=h;simp only [World.cell?,A] at hc;rcases o with _ | _ | _ | _ | o <;> simp [FaC] at hc
 all_goals exact absurd hc.symm (hv _ _ _)
theorem xd {W:World} {g:Nat} {a:Addr} (c:Array Value) (h:a.block≠g):(W.setRow g c).cell? a=W.cell? a:=by
 unfold World.cell?;rw [setRow_other _ _ _ _ h]
theorem zdu {W:World} {g:Nat} {m:ct} {ao:Option Addr} {n cap:Nat} {L:List K.En} (A:aD W g m) (h:K.aF W ao n cap L) (c:Array Value):K.aF (W.setRow g c) ao n cap L:=by
 refine ⟨h.1,h.2.1,fun ad e t ht=>?_,h.2.2.2⟩;have B:=h.2.2.1 ad e t ht;have hb:(ad.add (t * 4)).block≠g:=A.ne B.c0 (fun _ _ _ h=>by cases h);exact ⟨by rw [xd c hb];exact B.c0,by rw [xd c (by rw [zp];exact hb)];exact B.c1,by rw [xd c (by rw [zp];exact hb)];exact B.c2,by rw [xd c (by rw [zp];exact hb)];exact B.c3⟩
theorem bS {W:World} {g:Nat} {m:ct} {p:Pv} (A:aD W g m) (h:ak W p) (c:Array Value):ak (W.setRow g c) p:=by
 refine ⟨⟨h.vec.1,h.vec.2.1,fun ad e t ht=>?_⟩,⟨h.cloud.len,h.cloud.nil,fun ad e t ht=>?_,h.cloud.big,h.cloud.cap⟩,h.big⟩
 ·have B:=h.vec.2.2 ad e t ht;rw [xd c (A.ne B (fun _ _ _ h=>by cases h))];exact B
 ·have B:=h.cloud.cell ad e t ht;have hb:=A.ne B.c0 (fun _ _ _ h=>by cases h);exact ⟨by rw [xd c hb];exact B.c0,by rw [xd c (by rw [zp];exact hb)];exact B.c1,by rw [xd c (by rw [zp];exact hb)];exact B.c2⟩
theorem zeg {W:World} {g:Nat} {m:ct} {ao:Option Addr} {n cap:Nat} {L:List Rc} (A:aD W g m) (h:RcS W ao n cap L) (c:Array Value):RcS (W.setRow g c) ao n cap L:=by
 refine ⟨h.len,h.nil,fun ad ha t ht=>?_,fun r hr=>⟨bS A (h.ok r hr).1 c,(h.ok r hr).2⟩,h.big⟩;have B:=h.at_ ad ha t ht;have hb:=A.ne B.c0 (fun _ _ _ h=>by cases h);exact ⟨by rw [xd c hb];exact B.c0,by rw [xd c (by rw [zp];exact hb)];exact B.c1,by rw [xd c (by rw [zp];exact hb)];exact B.c2⟩
theorem a8.offF {W:World} {g:Nat} {m:ct} {f:Fc} (h:a8 W f) (A:aD W g m) (c:Array Value):a8 (W.setRow g c) f:=⟨zdu A h.es c,bS A h.p c,zeg A h.rs c⟩
def FcE (w w':World) (e:Ending) (D:Fc -> Int -> Prop):Prop:=∃ f er,e = .returned (.tuple #[FaV (mkF f),.int .i64 er])/\a8 w' f/\FcR f/\Below w.heap.size w w'/\D f er
attribute [local go_sem ↓] zl zk zM zL jC x4
attribute [local go_sem] zf zh zj zr zF kc wY qG
end
section
open Go.RowKit
theorem vL (a b:Option Addr) (n c m d:Nat) (p:Pv) (w:World):(mR #[(0,.slice a n c),(1,.agg (PC p)),(2,.slice b m d)]).run Tryz.prog w = .ok (.agg (FaC (mkF ⟨a,n,c,[],p,b,m,d,[]⟩))) w:=by kernel_rfl
def ExA (w w':World) (x:Ending) (s:Fc):Prop:=∃ q:Pv,x = .returned (FaV (mkF ⟨s.ao,s.an,s.ac,s.es,q,s.ro,s.rn,s.rc,s.rs⟩))/\a8 w' ⟨s.ao,s.an,s.ac,s.es,q,s.ro,s.rn,s.rc,s.rs⟩/\Below w.heap.size w w'/\∃ D,ae (cv (s.es.map am)) D/\∃ C:Nat -> List Rn,(∀ r,r < 16 -> cG (aa s.p.P r) (aa D r) (C r))/\ae C q.P
attribute [local go_sem ↓] zl zk zM zL zK zJ jC
attribute [local go_sem] zf zh zj zr zF vL
end
section
open Go.RowKit
def UnD (f g u:Fc):Prop:=K.Asc u.es/\(∀ e,e∈u.es↔e∈f.es∨e∈g.es)/\ae (aA [f.p,g.p]) u.p.P/\gS f.rs g.rs u.rs/\u.rn <= f.rn+g.rn
def UnG (w w':World) (x:Ending) (f g:Fc):Prop:=(K.aV (f.es++g.es)/\x = .returned (.tuple #[FaV (mkF fz0),.bool false])/\Below w.heap.size w w')∨(¬ K.aV (f.es++g.es)/\∃ u,x = .returned (.tuple #[FaV (mkF u),.bool true])/\a8 w' u/\Below w.heap.size w w'/\UnD f g u)
attribute [local go_sem ↓] zl zk zM zL jC x4
attribute [local go_sem] zf zh zj zr zF qG vL zw kc
end
section
open Go.RowKit
attribute [local go_sem ↓] zl zk zM zL qg qf K.zu K.zt zR zQ
attribute [local go_sem] zf zh zj zr zF zD zN zZ qr K.zC K.zs K.zB K.xX zy zH zT
def lvB (P:Pst) (R:List Rc) (e:K.En):Bool := !(inB P e) && cN R e
end
section
open Go.RowKit
def StD (f s:Fc):Prop:=s.es=f.es.filter (lvB f.p.P f.rs)/\dg f s.p.P/\gR f.rs s.p.P s.rs
attribute [local go_sem ↓] zl zk zM zL zK zJ xm x4
attribute [local go_sem] zf zh zj zr zF qG xQ qV zw
end
section
open Go.RowKit
def exf (s:Fc) (q:Pv):Fc:=⟨s.ao,s.an,s.ac,s.es,q,s.ro,s.rn,s.rc,s.rs⟩
def ExQ (s:Fc) (q:Pv):Prop:=∃ D,ae (cv (s.es.map am)) D/\∃ C:Nat -> List Rn,(∀ r,r < 16 -> cG (aa s.p.P r) (aa D r) (C r))/\ae C q.P
theorem yU {P:Pst} {e:K.En} (h:inB P e=true):0 <= e.rep/\e.rep < 16:=by
 have h1:=((qk P e).1 h).1;simpa [V.isR] using h1
theorem vZ {P:Pst} {e:K.En} (h:0 <= e.rep/\e.rep < 16):inB P e=true↔mem (aa P e.rep.toNat) e.num:=by
 rw [qk];unfold cu
 have h1:V.isR e.rep=true:=by simp [V.isR];omega
 simp [h1]
theorem zf6 {P:Pst} {x e:K.En} (h:am x=am e):inB P x=inB P e:=by
 obtain ⟨a,b,c,d⟩:=x;obtain ⟨a',b',c',d'⟩:=e;unfold am at h;injection h with h1 h2;subst h1 h2;rfl
theorem zgO {x e:K.En} (h:am x=am e):K.aj x e=true:=by
 unfold am at h;injection h with h1 h2;unfold K.aj;simp [h1,h2]
theorem zah {u:Fc} {P:Pst} (h:dg u P) (e:K.En):inB P e=true↔(okD (am e)=true/\∃ x∈u.es,am x=am e)∨inB u.p.P e=true:=by
 by_cases h0:0 <= e.rep/\e.rep < 16
 ·rw [vZ h0,vZ h0,h.2 _ (by omega) e.num,xL];refine or_congr_left ?_;constructor
  ·rintro ⟨d,hd,k1,k2,k3⟩;obtain ⟨x,hx,rfl⟩:=List.mem_map.1 hd
   have ed:am x=am e:=by
    unfold am at k2 k3 ⊢;simp only at k2 k3;congr 1;omega
   exact ⟨ed ▸ k1,x,hx,ed⟩
  ·rintro ⟨h1,x,hx,h2⟩;exact ⟨am x,List.mem_map.2 ⟨x,hx,rfl⟩,h2 ▸ h1,by rw [h2];show e.rep=((e.rep.toNat:Nat):Int);omega,by rw [h2];rfl⟩
 ·constructor
  ·intro h;exact absurd (yU h) h0
  ·rintro (⟨h,-⟩ | h)
   ·exfalso;unfold okD am at h;simp only [Bool.and_eq_true] at h;have h1:=h.1;simp [V.isR] at h1;omega
   ·exact absurd (yU h) h0
end
section
open Go.RowKit
attribute [local go_sem ↓] zl zk zM zL
attribute [local go_sem] zf zh zj zr
def iX (f:Fc):List K.En:=(f.es.filter (pkB f.p.P false)).filter (cN f.rs)
def LvA (w w':World) (x:Ending) (f:Fc):Prop:=(aB f/\K.cU w w' x (iX f) 0)∨(¬ aB f/\K.cU w w' x [] 1)
theorem ym {L:List K.En} (h:K.chk L=0) (p:K.En -> Bool):K.chk (L.filter p)=0:=
 K.wo (List.Pairwise.filter p (K.kx h)) (fun e he=>xN h e (List.mem_filter.1 he).1)
theorem cU.mono0 {w w0 w':World} {x:Ending} {L:List K.En} {er:Int} (h:K.cU w w' x L er) (hb:Below w0.heap.size w0 w):K.cU w0 w' x L er:=by
 obtain ⟨ao,n,c,h1,h2,h3,h4⟩:=h;exact ⟨ao,n,c,h1,h2,hb.trans (h3.mono hb.size),fun ad e=>Nat.le_trans hb.size (h4 ad e)⟩
theorem bD (f:Fc) (w:World) (hF:a8 w f) (oz:∀ s,wt (ofS f.rs s) <= 8796093022207) (lC:f.rn * (f.an+1) <= 8796093022207) :
  Calls Tryz.prog 15 #[FaV (mkF f)] w fun e w'=>LvA w w' e f:=by
 have HX:=hide (zP w (mkF f));have az:=hide (ze w (.cells (FaC (mkF f)) 29));have HS:=hide (hF.below az.out);have HW:=hide (And.intro oz lC);clear hF oz lC;obtain ⟨wk,cq⟩:∃ wk,w.alloc (.cells (FaC (mkF f)) 29)=wk:=⟨_,rfl⟩;obtain ⟨G,hG⟩:∃ G,w.heap.size=G:=⟨_,rfl⟩;rw [cq] at HX az HS;rw [hG] at HX;obtain ⟨c0,c3⟩:=HX.out.cs;have lp:=zi HX.out.past;go_enter Tryz.func15,Tryz.ntmps15;go_wp2_with fail;clear cq hG;refine (jh f.ao f.an f.ac f.es f.p _ HS.out.es HS.out.p).mono ?_;rintro e w1 h1;rcases h1 with ⟨h1,h2,ao,n,c,rfl,S1,b1,n1⟩ | ⟨h1,ao,n,c,rfl,S1,b1,n1⟩;rotate_left
 ·have HE:Hid (LvA w w1 (.returned (.tuple #[.slice none 0 0,.int .i64 1])) f):=.inr ⟨fun h=>h1 ⟨(wm HS.out.es.1).2 h.1,h.2.1⟩,none,0,0,rfl,zbB _,az.out.trans (b1.mono az.out.size),fun ad e=>(by cases e)⟩;clear h1 S1 b1 n1 c0 c3 lp;go_wp2_with fail;go_ret2;exact HE.out
 have HC:Hid (K.chk f.es=0/\af f.p.P):=⟨h1,h2⟩;have aW:=wTr az b1;have gX:=hide (HX.out.below b1);have ei:=hide (HS.out.below b1);have Lt:=hide S1;have cP:(f.es.filter (pkB f.p.P false)).length=n:=S1.1
 have m9:n <= f.an:=by rw [<- cP,<- HS.out.es.1];exact List.length_filter_le _ _
 have HM:Hid (f.rn * (n+1) <= 8796093022207):=Nat.le_trans (Nat.mul_le_mul_left _ (by omega)) HW.out.2;clear h1 h2 S1 b1 n1 c0 c3 lp cP m9;obtain ⟨-,c3⟩:=gX.out.cs;go_wp2_with fail;clear c3;refine (ws ao f.ro n c f.rn f.rc _ f.rs _ Lt.out ei.out.rs HW.out.1 HM.out).mono ?_;rintro e w2 h2;rcases h2 with ⟨-,h2,h3⟩ | ⟨h2,h3⟩
 ·have HE:Hid (LvA w w2 e f):=.inl ⟨⟨(wm HS.out.es.1).1 HC.out.1,HC.out.2,h2⟩,cU.mono0 h3 aW.out⟩;obtain ⟨a2,n2,c2,rfl,-,-,-⟩:=h3;clear h2;go_wp2_with fail;go_ret2;exact HE.out
 ·have HE:Hid (LvA w w2 e f):=.inr ⟨fun h=>h2 ⟨ym HC.out.1 _,h.2.2⟩,cU.mono0 h3 aW.out⟩;obtain ⟨a2,n2,c2,rfl,-,-,-⟩:=h3;clear h2;go_wp2_with fail;go_ret2;exact HE.out
end
section
open Go.RowKit
def ClE (e:K.En) (g:Fc):Prop:=∃ y∈g.es,K.aj y e=true/\y≠e
def Ik (e:K.En):Rn:=⟨e.rep,e.num⟩
def Is (f g:Fc) (d:Rn) (b:Bool):Prop:=(¬ (aB f/\aB g)/\d=rn0/\b=false)∨(aB f/\aB g/\((b=false/\d=rn0/\∀ i,i < f.an -> ¬ ClE (f.es.getD i K.en0) g)∨(b=true/\∃ i,i < f.an/\ClE (f.es.getD i K.en0) g/\(∀ j,j < i -> ¬ ClE (f.es.getD j K.en0) g)/\d=Ik (f.es.getD i K.en0))))
def ClA (w w':World) (x:Ending) (f g:Fc):Prop:=∃ (d:Rn) (b:Bool),x = .returned (.tuple #[RV d,.bool b])/\Is f g d b/\Below w.heap.size w w'
attribute [local go_sem ↓] zl zk zM zL qg qf K.zu K.zt
attribute [local go_sem] zf zh zj zr zD zN zZ qr K.zC K.zs K.zB
def tA (a:Array (Nat × Value)):Sem Value:=Instr.build 64 a
theorem zfe (a:Array (Nat × Value)):Instr.build 64 a=tA a:=rfl
theorem zcQ (w:World):(tA #[]).run Tryz.prog w = .ok (RV rn0) w:=by kernel_rfl
attribute [local go_sem ↓] zfe
attribute [local go_sem] zcQ
end
section
open Go.RowKit
attribute [local go_sem ↓] K.zu K.zt K.ql zl zk zR zQ
attribute [local go_sem] K.zC K.zs zf zh
def EqF (f g:Fc):Prop:=f.es=g.es/\f.p.P=g.p.P/\plR f.rs=plR g.rs
attribute [local go_sem ↓] zM zL
attribute [local go_sem] zj zr
end
section
open Go.RowKit
structure IsF (h:Fc) (E:K.En -> Prop) (M:Nat -> Int -> Prop) (R:Rp -> Prop):Prop where
 form:aB h
 len:h.es.length=h.an/\h.rs.length=h.rn
 es:∀ x,x∈h.es↔E x
 p:∀ r,r < 16 -> ∀ n,mem (aa h.p.P r) n↔M r n
 rs:∀ y,y∈plR h.rs↔R y
def pA (f g:Fc):Prop:=aB f/\aB g/\∀ e∈f.es,¬ ClE e g
theorem bL {x y:K.En} (h:K.aj x y=true):K.aj y x=true:=by
 unfold K.aj at h ⊢;simp only [Bool.and_eq_true,beq_iff_eq] at h ⊢;exact ⟨h.1.symm,h.2.symm⟩
theorem pA.symm {f g:Fc} (h:pA f g):pA g f:=⟨h.2.1,h.1,fun e he ⟨y,hy,hd,aT⟩=>h.2.2 y hy ⟨e,he,bL hd,fun q=>aT q.symm⟩⟩
attribute [local go_sem ↓] zM zL qg qf
attribute [local go_sem] zj zr zD zN zZ
end
section
open Go.RowKit
def hrd (f:Fc) (r:Nat) (n:Int):Prop:=mem (cv (f.es.map am) r) n∨mem (aa f.p.P r) n
def PsD (f:Fc) (P:Pst) (er:Int):Prop:=(¬ aB f/\er=1/\P=pv0.P)∨(aB f/\er=0/\af P/\∀ r,r < 16 -> ∀ n,mem (aa P r) n↔hrd f r n)
def PsA (w w':World) (e:Ending) (f:Fc):Prop:=∃ (p:Pv) (er:Int),e = .returned (.tuple #[PV p,.int .i64 er])/\ak w' p/\de w.heap.size p/\Below w.heap.size w w'/\PsD f p.P er
attribute [local go_sem ↓] zl zk zM zL x4
attribute [local go_sem] zf zh zj zr qG
theorem bC (f:Fc) (w:World) (hF:a8 w f):Calls Tryz.prog 16 #[FaV (mkF f)] w fun e w'=>PsA w w' e f:=by
 have b1:=ze w (.cells (FaC (mkF f)) 29);have X1:=zP w (mkF f);obtain ⟨w1,dH⟩:∃ w1,w.alloc (.cells (FaC (mkF f)) 29)=w1:=⟨_,rfl⟩
 have ml:w1.heap.size=w.heap.size+1:=by rw [<- dH];simp
 rw [dH] at b1 X1;have x2:aE (w1.alloc (.cells #[.slice none 0 0,.slice none 0 0] 26)) w1.heap.size pv0:=zq w1 pv0;have b2:=ze w1 (.cells #[.slice none 0 0,.slice none 0 0] 26);obtain ⟨w2,eZ⟩:∃ w2,w1.alloc (.cells #[.slice none 0 0,.slice none 0 0] 26)=w2:=⟨_,rfl⟩;rw [eZ] at x2 b2;rw [ml] at x2;obtain ⟨G,dC⟩:∃ G,w.heap.size=G:=⟨_,rfl⟩;rw [dC] at X1 x2 ml;have HX:=hide (X1.below b2);have HZ:=hide x2;have az:=hide (b1.trans (b2.mono b1.size));have HF:=hide (hF.below az.out);have iP:Hid (w.heap.size=G):=dC;clear hF b1 b2 X1 x2;have lf:=qd HX.out;go_enter Tryz.func16,Tryz.ntmps16;go_wp2_with fail;clear dH eZ ml dC lf;refine (kA f _ HF.out).mono ?_;rintro e w3 ⟨x,rfl,hx,b3⟩;have aN:=wTr az b3;have ex:=hide (HX.out.below b3);have ru:=hide (HZ.out.below b3);have sl:=hide (HF.out.below b3)
 clear b3;rcases hx with ⟨rfl,h1⟩ | ⟨rfl,h1⟩;rotate_left
 ·have t6:(stP (.pointer (some ⟨G+1,0,none⟩)) (.agg #[.slice none 0 0,.slice none 0 0])).run Tryz.prog w3 = .ok () (w3.setRow (G+1) (PC pv0)):=qJ (p':=pv0) ru.out;have Da:Hid (aE (w3.setRow (G+1) (PC pv0)) (G+1) pv0):=setRow_heap _ _ _ _ _ _ ru.out;have HE:Hid (PsA w (w3.setRow (G+1) (PC pv0)) (.returned (.tuple #[PV pv0,.int .i64 1])) f):=⟨pv0,1,rfl,ak.zero _,⟨fun ad h=>(by cases h),fun ad h=>(by cases h)⟩,zg aN.out (by rw [iP.out];omega),.inl ⟨h1,rfl,rfl⟩⟩;clear h1;go_wp2_with fail;clear t6;refine bodyPost_ret (lj rfl rfl rfl Da.out) rfl ?_;exact HE.out
 have iI:=hide h1;clear h1;obtain ⟨c0,-⟩:=ex.out.cs;go_wp2_with fail;clear c0;refine (zbE f.ao f.an f.ac f.es _ sl.out.es).mono ?_;rintro e w4 ⟨b4,⟨hc,p,rfl,S4,n4,C4⟩ | ⟨hc,-⟩⟩;rotate_left
 ·exact absurd ((wm sl.out.es.1).2 iI.out.1) hc
 obtain ⟨g5,oX⟩:∃ g,w4.heap.size=g:=⟨_,rfl⟩;have b5:=ze w4 (.cells #[.slice none 0 0,.slice none 0 0] 26);have x5:aE (w4.alloc (.cells #[.slice none 0 0,.slice none 0 0] 26)) w4.heap.size pv0:=zq w4 pv0
 have z5:(w4.alloc (.cells #[.slice none 0 0,.slice none 0 0] 26)).heap.size=w4.heap.size+1:=by simp
 obtain ⟨w5,AM⟩:∃ w5,w4.alloc (.cells #[.slice none 0 0,.slice none 0 0] 26)=w5:=⟨_,rfl⟩;rw [AM] at b5 x5 z5;rw [oX] at x5 z5;have s5:=qJ (p':=p) x5;have B6:Below w4.heap.size w4 (w5.setRow g5 (PC p)):=zg b5 (by omega);have X6:aE (w5.setRow g5 (PC p)) g5 p:=setRow_heap _ _ _ _ _ _ x5;obtain ⟨w6,BU⟩:∃ w6,w5.setRow g5 (PC p)=w6:=⟨_,rfl⟩;rw [BU] at s5 B6 X6;have b46:=b4.trans (B6.mono b4.size);have gJ:=wTr aN b46;have ui:=hide (ex.out.below b46);have uH:=hide (ru.out.below b46);have KI:=hide (sl.out.below b46);have L4:=hide (S4.below B6);have NJ:=hide X6;have nD:=hide C4
 have lp:=zi X6.at
 have lq:=zi ui.out.past;have nk:=pI w6 p f.p L4.out KI.out.p;have b7:=ze w6 (.cells #[.slice p.vo p.vn p.vc,.slice p.co p.cn p.cc,.slice f.p.vo f.p.vn f.p.vc,.slice f.p.co f.p.cn f.p.cc] 26);have lb:=qG p f.p w6;obtain ⟨g7,fT⟩:∃ g7,w6.heap.size=g7:=⟨_,rfl⟩;obtain ⟨w7,CO⟩:∃ w7,w6.alloc (.cells #[.slice p.vo p.vn p.vc,.slice p.co p.cn p.cc,.slice f.p.vo f.p.vn f.p.vc,.slice f.p.co f.p.cn f.p.cc] 26)=w7:=⟨_,rfl⟩;rw [CO] at nk b7 lb;rw [fT] at nk lb;have Bk:=hide nk;have cM:=wTr gJ b7;have uh:=hide (uH.out.below b7);clear nk b7 hc S4 n4 C4 b4 b5 x5 B6 X6 b46 BU;go_wp2_with fail;clear lp lq lb s5 AM oX fT CO z5;refine (qz (some ⟨g7,0,none⟩) 2 2 [p,f.p] _ Bk.out (za1 (zz.1 nD.out.canon) iI.out.2.1) (by decide)).mono ?_;rintro e w8 ⟨q,rfl,S8,n8,b8,C8⟩
 have hz:G+1+1 <= w7.heap.size:=by have:=uh.out.lt;omega
 obtain ⟨s1,e1,e2,e3,e4⟩:=xq (w:=w) (uh.out.below b8) S8 (n8.mono hz) (cM.out.trans (b8.mono cM.out.size)) (by rw [iP.out];omega);have dO:=hide e1
 have HE:Hid (PsA w (w8.setRow (G+1) (PC q)) (.returned (.tuple #[PV q,.int .i64 0])) f):=⟨q,0,rfl,e2,e3,e4,.inr ⟨iI.out,rfl,zz.1 C8.canon,fun r hr n=>by
  rw [zV C8 r hr n]
  show mem (aa p.P r++(aa f.p.P r++[])) n↔_
  rw [List.append_nil,mem_append,zV nD.out r hr n]
  exact Iff.rfl⟩⟩
 clear S8 n8 b8 C8 e1 e2 e3 e4 hz;go_wp2_with fail;clear s1;refine bodyPost_ret (lj rfl rfl rfl dO.out) rfl ?_;exact HE.out
end
section
open Go.RowKit
attribute [local go_sem ↓] zl zk zM zL zK zJ xm x4
attribute [local go_sem] zf zh zj zr zF qG xQ qV zw
end
section
open Go.RowKit
def LiA (w w':World) (x:Ending) (s:Fc):Prop:=∃ ao n c L er,x = .returned (.tuple #[.slice ao n c,.int .i64 er])/\K.aF w' ao n c L/\Below w.heap.size w w'/\((aJ s/\er=0/\L=s.es)∨(¬ aJ s/\er=1/\L=[]))
def PaA (w w':World) (x:Ending) (s:Fc):Prop:=∃ p er,x = .returned (.tuple #[PV p,.int .i64 er])/\ak w' p/\Below w.heap.size w w'/\((aJ s/\er=0/\p.P=s.p.P)∨(¬ aJ s/\er=1/\p=pv0))
attribute [local go_sem ↓] zl zk zK zJ kJ
attribute [local go_sem] zf zh zj zr zcP zw
end
section
open Go.RowKit
variable {w w' : World} {g : Nat}
structure iw where
 hvo:Option Addr
 hvn:Nat
 hvc:Nat
 hco:Option Addr
 hcn:Nat
 hcc:Nat
 lvo:Option Addr
 lvn:Nat
 lvc:Nat
 lco:Option Addr
 lcn:Nat
 lcc:Nat
def di0:iw:=⟨none,0,0,none,0,0,none,0,0,none,0,0⟩
def DiC (m:iw):Array Value:=#[.slice m.hvo m.hvn m.hvc,.slice m.hco m.hcn m.hcc,.slice m.lvo m.lvn m.lvc,.slice m.lco m.lcn m.lcc]
abbrev DiV (m:iw):Value:=.agg (DiC m)
theorem xz (m:iw):(DiC m).size=4:=rfl
theorem q9 (m:iw):(DiV m).cells=DiC m:=by simp [Value.cells]
structure Nu (w:World) (a:Addr) (m:iw):Prop where
 c0:w.cell? a=some (.slice m.hvo m.hvn m.hvc)
 c1:w.cell? (a.add 1)=some (.slice m.hco m.hcn m.hcc)
 c2:w.cell? (a.add 2)=some (.slice m.lvo m.lvn m.lvc)
 c3:w.cell? (a.add 3)=some (.slice m.lco m.lcn m.lcc)
def fX (w:World) (g:Nat) (m:iw):Prop:=w.heap[g]? = some (.cells (DiC m) 52 (0,0))
theorem fX.c1 {m:iw} (h:fX w g m):w.cell? ⟨g,1,none⟩=some (.slice m.hco m.hcn m.hcc):=by unfold fX at h;simp [World.cell?,h,DiC]
theorem fX.c2 {m:iw} (h:fX w g m):w.cell? ⟨g,2,none⟩=some (.slice m.lvo m.lvn m.lvc):=by unfold fX at h;simp [World.cell?,h,DiC]
theorem fX.c3 {m:iw} (h:fX w g m):w.cell? ⟨g,3,none⟩=some (.slice m.lco m.lcn m.lcc):=by unfold fX at h;simp [World.cell?,h,DiC]
def Il (v:Value):Sem Value:=Instr.loadAt 52 v
theorem jl (v:Value):Instr.loadAt 52 v=Il v:=rfl
def Ig (p v:Value):Sem Unit:=Instr.storeAt 52 p v
theorem jb (p v:Value):Instr.storeAt 52 p v=Ig p v:=rfl
end
section
open Go.RowKit
attribute [local go_sem ↓] zl zk jl jb
attribute [local go_sem] zf zh q9 xz
variable {w w' w2 W W' : World} {g : Nat}

structure Dg where
 h:Pv
 l:Pv
def mkD (d:Dg):iw:=⟨d.h.vo,d.h.vn,d.h.vc,d.h.co,d.h.cn,d.h.cc,d.l.vo,d.l.vn,d.l.vc,d.l.co,d.l.cn,d.l.cc⟩
def DL (w:World) (d:Dg):Prop:=ak w d.h/\ak w d.l
def InP (a b:Pst):Prop:=∀ r,r < 16 -> ∀ n,mem (aa a r) n -> mem (aa b r) n
def nt (H L:Pst):Prop:=af H/\af L/\InP L H
def CkD (w w':World) (e:Ending) (P:Prop):Prop:=∃ x,e = .returned (.int .i64 x)/\((x=1/\¬ P)∨(x=0/\P))/\Below w.heap.size w w'
end
section
open Go.RowKit
def dz0:Dg:=⟨pv0,pv0⟩
def dG (f:Fc):List K.En:=f.es.filter (lvB f.p.P f.rs)
theorem zfw (f:Fc):iX f=dG f:=by
 unfold iX dG;rw [List.filter_filter];congr 1
 funext e
 unfold lvB pkB
 cases inB f.p.P e <;> cases cN f.rs e <;> rfl
def DoF (f:Fc) (d:Dg):Prop:=dg f d.h.P/\ae (cv ((dG f).map am)) d.l.P
def DoS (s:Fc) (d:Dg):Prop:=d.h.P=s.p.P/\ae (cv (s.es.map am)) d.l.P
def EqD (a b:Dg):Prop:=a.h.P=b.h.P/\a.l.P=b.l.P
def OfR (P:Prop) (D:Dg -> Prop) (d:Dg) (er:Int):Prop:=(¬ P/\er=1/\d=dz0)∨(P/\er=0/\D d)
def OfE (w w':World) (x:Ending) (P:Prop) (D:Dg -> Prop):Prop:=∃ d er,x = .returned (.tuple #[DiV (mkD d),.int .i64 er])/\DL w' d/\Below w.heap.size w w'/\OfR P D d er
theorem zbk {f:Fc} {P:Pst} {er:Int} (h:PsD f P er):(¬ aB f/\er=1/\P=pv0.P)∨(aB f/\er=0/\dg f P):=by
 rcases h with h | ⟨h1,h2,h3,h4⟩
 ·exact .inl h
 ·exact .inr ⟨h1,h2,h3,h4⟩
end
section
open Go.RowKit
def DgS (w w':World) (e:Ending) (D:Dg -> Prop):Prop:=∃ d,e = .returned (DiV (mkD d))/\DL w' d/\Below w.heap.size w w'/\D d
def pC (a:Array (Nat × Value)):Sem Value:=Instr.build 52 a
theorem zff (a:Array (Nat × Value)):Instr.build 52 a=pC a:=rfl
theorem zb1 (w:World):(pC #[]).run Tryz.prog w = .ok (.agg (DiC (mkD dz0))) w:=by kernel_rfl
theorem zcR (p q:Pv) (w:World):(pC #[(0,.agg (PC p)),(1,.agg (PC q))]).run Tryz.prog w = .ok (.agg (DiC (mkD ⟨p,q⟩))) w:=by kernel_rfl
theorem zdW:(#[.slice none 0 0,.slice none 0 0,.slice none 0 0,.slice none 0 0]:Array Value)=DiC (mkD dz0):=rfl
attribute [local go_sem ↓] zl zk zM zL zK zJ jl jb zff
attribute [local go_sem] zf zh zw zj zr q9 xz zdW zb1 zcR
end
end Go.Proofs.YtcilfelgpmfehaaGreat
