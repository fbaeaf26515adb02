/- QCd QRm QRu HWa BCn BAo Lit BKe -/
import Derived.Test.YtjffpimfngdggaaGreatTk
import Derived.Test.YtjffpimfngdggaaGreatFe30
import Derived.Test.YtjffpimfngdggaaGreatFe00
import Derived.Test.YtjffpimfngdggaaGreatFe03
import Derived.Deep.RegionHeldLaw
import Derived.Test.YtjffpimfngdggaaGreatFe09
import Derived.Test.YtjffpimfngdggaaGreatFe24
import Derived.Test.YtjffpimfngdggaaGreatFe29
import Derived.Test.YtjffpimfngdggaaGreatFe23
import Derived.Test.YtjffpimfngdggaaGreatFe26
import Derived.Test.YtjffpimfngdggaaGreatFe06
import Derived.Test.YtjffpimfngdggaaGreatFe21
import Derived.Test.YtjffpimfngdggaaGreatFe16
import Derived.Shelf.SlIter.Nil
import Derived.Shelf.SortM.Plain
import Derived.Shelf.SortM.SortNone
import Derived.Test.YtjffpimfngdggaaGreatProg
import Derived.Test.YtjffpimfngdggaaGreatFe22
set_option maxRecDepth 100000
set_option maxHeartbeats 6400000
namespace Go.Proofs.YtjffpimfngdggaaGreat
section
open Go.RowKit
attribute [local go_sem ↓] kN kz
attribute [local go_sem] xF qT
def FP (w w':World) (e:Ending) (k:Int) (N1 N2:Nat -> List Rn):Prop:=∃ (T:Nat -> Si) (N:Nat -> List Rn),e = .returned (JAv T)/\(∀ r,r < 16 -> V.Src w' (T r).ao (T r).n (T r).cap (tn (N r))/\(∀ ad,(T r).ao=some ad -> w.heap.size <= ad.block)/\nI k (N1 r) (N2 r) (N r))/\Below w.heap.size w w'
structure CbJ (w W:World) (k:Int) (T1 T2:Nat -> Si) (N1 N2:Nat -> List Rn) (T:Nat -> Si) (N:Nat -> List Rn) (j:Nat):Prop where
 a:aS W w.heap.size 141 T1
 b:aS W (w.heap.size+1) 141 T2
 z:aS W (w.heap.size+1+1) 141 (fun _=>si0)
 s:aS W (w.heap.size+1+1+1) 141 T
 bl:Below w.heap.size w W
 t:∀ r,r < j -> V.Src W (T r).ao (T r).n (T r).cap (tn (N r))/\(∀ ad,(T r).ao=some ad -> w.heap.size+1+1+1 < ad.block)/\nI k (N1 r) (N2 r) (N r)
end
section
open Go.RowKit
attribute [local go_sem ↓] zq zp kN kz
attribute [local go_sem] xF qT zE zi qm zj qJ
end
section
open Go.RowKit
attribute [local go_sem ↓] zq zp kN kz
attribute [local go_sem] xF qT zE zi qm zj qJ
end
section
open Go.RowKit Go.Maps
open Classical in
noncomputable def waitB (P:Pst) (y:Rp):Bool:=decide (¬ wiP y.2 P)
def iA (L:List Rc) (P:Pst) (F:List Rc):Prop:=(∀ r∈F,cj r)/\plR F=(plR L).filter (waitB P)
theorem br {P:Pst} {y:Rp} (h:wiP y.2 P):waitB P y=false:=by unfold waitB;simp [h]
theorem wDq {P:Pst} {y:Rp} (h:¬ wiP y.2 P):waitB P y=true:=by unfold waitB;simp [h]
structure WtI (L:List Rc) (P:Pst) (k:Nat) (D:List Rc):Prop where
 ok:∀ r∈D,cj r
 eq:plR D=(plR (L.take k)).filter (waitB P)
theorem WtI.start (L:List Rc) (P:Pst):WtI L P 0 []:=⟨fun r h=>(by cases h),rfl⟩
theorem WtI.skip {L:List Rc} {P:Pst} {k:Nat} {D:List Rc} {r:Rc} (h:WtI L P k D) (hk:k < L.length) (hr:L.getD k rc0=r) (hw:wiP r.p.P P):WtI L P (k+1) D:=by
 refine ⟨h.ok,?_⟩;rw [kJ L k hk,hr,List.filter_append,<- h.eq,List.filter_cons_of_neg (by rw [br (show wiP (r.s,r.p.P).2 P from hw)];decide),List.filter_nil,List.append_nil]
theorem WtI.add {L:List Rc} {P:Pst} {k:Nat} {D:List Rc} {r c:Rc} (h:WtI L P k D) (hk:k < L.length) (hr:L.getD k rc0=r) (hw:¬ wiP r.p.P P) (hc:cj c) (e:rck c=rck r):WtI L P (k+1) (D++[c]):=by
 refine ⟨jc h.ok hc,?_⟩;rw [kJ L k hk,hr,List.filter_append,<- h.eq,List.filter_cons_of_pos (wDq (show ¬ wiP (r.s,r.p.P).2 P from hw)),List.filter_nil,wW,e];rfl
theorem WtI.done {L:List Rc} {P:Pst} {D:List Rc} (h:WtI L P L.length D):iA L P D:=⟨h.ok,by rw [h.eq,List.take_length]⟩
def WtA (w w':World) (x:Ending) (L:List Rc) (n:Nat) (P:Pst):Prop:=(OkR L n/\aj P/\∃ (h:Hs) (F:List Rc),x = .returned (.tuple #[HsV h,.int .i64 0])/\GvR w w' h F/\h.n <= n/\iA L P F)∨(¬ (OkR L n/\aj P)/\x = .returned (.tuple #[.slice none 0 0,.int .i64 1])/\Below w.heap.size w w')
attribute [local go_sem ↓] zq zp zZ zY
attribute [local go_sem] zi zj zJ zQ qe
theorem jD (ao:Option Addr) (n ca:Nat) (L:List Rc) (p:Pv) (w:World) (hS:RcT w ao n ca L) (hP:am w p) (hn:n <= 2199023255551) :
  Calls Tryz.prog 34 #[.slice ao n ca,PV p] w fun x w'=>WtA w w' x L n p.P:=by
 have b1:=ze w (.cells (PC p) 26);have x1:=zr w p;obtain ⟨wk,aY⟩:∃ w1,w.alloc (.cells (PC p) 26)=w1:=⟨_,rfl⟩;obtain ⟨G,hG⟩:∃ g1,w.heap.size=g1:=⟨_,rfl⟩;rw [aY] at b1 x1;rw [hG] at x1;have aq:=hide b1;have HX:=hide x1;have HS:=hide (hS.below b1);have HP:=hide (hP.below b1);have gJ:Hid (L.length=n):=hS.src.len;have HN:=hide hn;clear b1 x1 hS hP;go_enter Tryz.func34,Tryz.ntmps34;go_wp2_with fail;clear aY hG;refine (xg ao n ca L _ HS.out.src).mono ?_;rintro x w1 ⟨z,rfl,hz,b1⟩;have aN:=hide b1
 have lp:=zl (HX.out.below b1).at
 clear b1;rcases hz with ⟨rfl,hO⟩ | ⟨rfl,hO⟩;rotate_left
 ·have HE:Hid (WtA w w1 (.returned (.tuple #[.slice none 0 0,.int .i64 1])) L n p.P):=.inr ⟨fun h=>hO h.1,rfl,aq.out.trans (aN.out.mono aq.out.size)⟩;clear hO lp;go_wp2_with fail;go_ret2;exact HE.out
 have HO:=hide hO;clear hO;go_wp2_with fail;clear lp;refine (qW p _ (HP.out.below aN.out)).mono ?_;rintro x w0 ⟨b,rfl,hb,b2⟩;have gI:=wTr aN b2;clear b2
 cases b with
 | false =>
  have HE:Hid (WtA w w0 (.returned (.tuple #[.slice none 0 0,.int .i64 1])) L n p.P):=.inr ⟨fun h=>(by have:=hb.2 h.2;cases this),rfl,aq.out.trans (gI.out.mono aq.out.size)⟩;clear hb;go_wp2_with fail;go_ret2;exact HE.out
 | true =>
  have HF:=hide (hb.1 rfl);have sF:=hide (xS.1 (by rw [gJ.out];exact HO.out):(∀ r∈L,cj r)/\Srt ck (plR L));clear hb;go_wp2_with fail;go_loopw [6,8,19] (fun v _ i wr=>∃ (k:Nat) (h:Hs) (D:List Rc),k <= n/\v = .slice h.o h.n h.c/\i = .int .i64 (k:Int)/\Hid (aO w0.heap.size w0 wr h D/\WtI L p.P k D/\(∀ r∈D,du w0.heap.size r.p)/\h.n <= k)) (fun _ _ i _=>n - (intOf i).toNat)
  case atStart=>exact ⟨0,hs0,[],Nat.zero_le _,rfl,rfl,aO.nil w0,WtI.start L _,fun r hr=>(by cases hr),Nat.le_refl _⟩
  case round =>
   obtain ⟨k,h,D,hk,rfl,rfl,HI⟩:=hrel
   rename World=>wr
   have lK:Hid (Below wk.heap.size wk wr):=gI.out.trans (HI.out.1.below.mono gI.out.size);have pF:=HN.out;by_cases ak:k < n
   ·have cL:(k:Int) < (n:Int):=by omega
    obtain ⟨ad,eO,A0⟩:=(HS.out.below lK.out).src.at k ak;have lA:=(HS.out.below lK.out).src.okAt k ak;obtain ⟨r,Hr⟩:∃ r,Hid (L.getD k rc0=r):=⟨_,rfl⟩;rw [Hr.out] at A0 lA
    have uW:Hid (cj r):=by
     have h:=sF.out.1 _ (jh (L:=L) (j:=k) (by rw [gJ.out];exact ak));rw [Hr.out] at h;exact h
    subst eO;have dK:=zM A0;obtain ⟨g7,fZ⟩:∃ g7,wr.heap.size=g7:=⟨_,rfl⟩;obtain ⟨w7,a8,X7,B7,S7⟩:=fE wr (mkR r) g7 fZ;have fI:=hide (HI.out.1.later B7);have dH:=wTr lK B7;have sE:=hide X7;have Ba:=hide (lA.below B7);have lr:=zl X7.past
    have lp:=zl (HX.out.below dH.out).at
    have cw:=hide ak;clear A0 X7 B7 S7 lA ak hk;go_wp2_with fail;clear a8 dK fZ lr lp;refine (zby r.p p _ Ba.out.1 (HP.out.below dH.out) uW.out.2.1 HF.out).mono ?_;rintro e w8 ⟨b,rfl,hb,b8⟩;have fD:=hide (fI.out.later b8);have Hb:=hide hb;have AE:=hide (Ba.out.below b8);have l7:=qI (sE.out.below b8);clear hb b8
    cases b with
    | true =>
     have r9:Hid (aO w0.heap.size w0 w8 h D/\WtI L p.P (k+1) D/\(∀ r∈D,du w0.heap.size r.p)/\h.n <= k+1):=⟨fD.out,HI.out.2.1.skip (by rw [gJ.out];exact cw.out) Hr.out (Hb.out.1 rfl),HI.out.2.2.1,by have:=HI.out.2.2.2;omega⟩;go_wp2_with fail;clear l7;go_roundw
     case rel=>exact ⟨k+1,h,D,cw.out,rfl,by simp,r9.out⟩
     case measure=>simp [intOf];have:=cw.out;omega
    | false =>
     have Mh:Hid (¬ wiP r.p.P p.P):=fun h=>by have:=Hb.out.2 h;cases this
     go_wp2_with fail;clear l7;refine (j9 r _ AE.out).mono ?_;rintro e wa ⟨c,rfl,gM,Rc1,Nc,ba,Cc⟩;have Oa:=fD.out.later ba;have fN:eC h c.p:=fun j hj=>dA.new Nc (fD.out.own.lt j hj).2;obtain ⟨gb,cb2,wb,dS,Ob,oU,p8,ti⟩:=Oa.appAt c Rc1 fN (by have:=HI.out.2.2.2;have:=HN.out;have:=cw.out;omega);have oR:Hid ((Builtin.append_ #[27,27] 27 #[.slice h.o h.n h.c,.slice (some ⟨wa.heap.size,0,none⟩) 1 1]).run Tryz.prog (wa.alloc (.cells #[.string c.s,.slice c.p.vo c.p.vn c.p.vc,.slice c.p.co c.p.cn c.p.cc] 78)) = .ok (.slice (some ⟨gb,0,none⟩) (h.n+1) cb2) wb):=dS;have e:=wn uW.out gM Cc;have r9:Hid (aO w0.heap.size w0 wb ⟨some ⟨gb,0,none⟩,h.n+1,cb2⟩ (D++[c])/\WtI L p.P (k+1) (D++[c])/\(∀ r∈D++[c],du w0.heap.size r.p)/\h.n+1 <= k+1):=⟨Ob,HI.out.2.1.add (by rw [gJ.out];exact cw.out) Hr.out Mh.out (kH uW.out e) e,jc HI.out.2.2.1 (Nc.mono fD.out.below.size),by have:=HI.out.2.2.2;omega⟩
     clear dS Ob Oa fN gM Rc1 Nc ba Cc oU p8 ti e;go_wp2_with (at_builtin;refine x7 rfl (.tmp 28) (.tmp 31) rfl rfl rfl oR.out ?_);go_roundw
     case rel=>exact ⟨k+1,⟨some ⟨gb,0,none⟩,h.n+1,cb2⟩,D++[c],cw.out,rfl,by simp,r9.out⟩
     case measure=>simp [intOf];have:=cw.out;omega
   ·have cL:¬ (k:Int) < (n:Int):=by omega
    have HE:Hid (WtA w wr (.returned (.tuple #[.slice h.o h.n h.c,.int .i64 0])) L n p.P):=by
     obtain ⟨q1,q2,q3,q4⟩:=HI.out;rw [show k=L.length by rw [gJ.out];omega] at q2;exact .inl ⟨HO.out,HF.out,h,D,rfl,q1.give (aq.out.trans (gI.out.mono aq.out.size)) q3 (by omega),by omega,q2.done⟩
    clear HI;go_wp2_with fail;go_ret2;exact HE.out
def WrA (w w':World) (x:Ending) (L:List Rc) (n:Nat) (P:Pst):Prop:=(OkR L n/\aj P/\∃ (h:Hs) (F:List Rc),x = .returned (.tuple #[HsV h,.int .i64 0])/\RcT w' h.o h.n h.c F/\(∀ ad,h.o=some ad -> w.heap.size <= ad.block)/\h.n <= n/\Below w.heap.size w w'/\iA L P F)∨(¬ (OkR L n/\aj P)/\x = .returned (.tuple #[.slice none 0 0,.int .i64 1])/\Below w.heap.size w w')
end
section
open Go.RowKit
theorem zb7 {D:List Rn} {p q:Rn -> Bool} {a:Rn} (ha:a∈D) (hp:p a=true) (hq:q a=false) (hqp:∀ x,q x=true -> p x=true):D.countP q+1 <= D.countP p:=by
 induction D with
 | nil=>cases ha
 | cons x D ih =>
  have hm:D.countP q <= D.countP p:=List.countP_mono_left (fun y _ h=>hqp y h);rcases List.mem_cons.1 ha with rfl | h
  ·rw [List.countP_cons_of_pos hp,List.countP_cons_of_neg (by rw [hq];decide)];omega
  ·have h1:=ih h
   cases hx:q x
   ·rw [List.countP_cons_of_neg (by rw [hx];decide)]
    have h2:D.countP p <= (x :: D).countP p:=by rw [List.countP_cons];omega
    omega
   ·rw [List.countP_cons_of_pos hx,List.countP_cons_of_pos (hqp x hx)];omega
theorem yN (D:List Rn) (r:Int):∀ (X:List Rn) (l:Int),1 <= l -> form l X -> (∀ n,mem X n -> (⟨r,n⟩:Rn)∈D) -> X.length <= D.countP (fun d=>decide (d.lo=r) && decide (l <= d.hi))
 | [],_,_,_,_=>Nat.zero_le _
 | x :: X,l,hl,hf,hD=>by
  have h1:=hf.1;have h2:=hf.2.1;have h3:=yN D r X (x.hi+2) (by omega) hf.2.2.2 (fun n hn=>hD n ((mem_cons _ _ _).2 (.inr hn)));have h4:(⟨r,x.lo⟩:Rn)∈D:=hD x.lo ((mem_cons _ _ _).2 (.inl ⟨by omega,by have:=hf.2.2.1;omega,Int.le_refl _,h2⟩));have h5:=zb7 (p:=fun d=>decide (d.lo=r) && decide (l <= d.hi)) (q:=fun d=>decide (d.lo=r) && decide (x.hi+2 <= d.hi)) h4 (by simp;omega) (by simp;omega) (fun y hy=>by simp at hy ⊢;omega);simp only [List.length_cons];omega
theorem yq {N:Nat -> List Rn} (D:List Rn):∀ k:Nat,(∀ r,r < k -> form 1 (N r)/\∀ n,mem (N r) n -> (⟨(r:Int),n⟩:Rn)∈D) -> (aJ N k).length <= D.countP (fun d=>decide (0 <= d.lo) && decide (d.lo < (k:Int)))
 | 0,_=>Nat.zero_le _
 | k+1,h=>by
  have h1:=yq D k (fun r hr=>h r (by omega));have h2:=vB (N k);have h3:=yN D k (N k) 1 (Int.le_refl _) (h k (by omega)).1 (h k (by omega)).2
  have h4:D.countP (fun d=>decide (0 <= d.lo) && decide (d.lo < (k:Int)))+D.countP (fun d=>decide (d.lo=(k:Int)) && decide (1 <= d.hi)) <= D.countP (fun d=>decide (0 <= d.lo) && decide (d.lo < ((k+1:Nat):Int))):=by
   clear h h1 h2 h3
   induction D with
   | nil=>simp
   | cons x D ih =>
    rw [List.countP_cons,List.countP_cons,List.countP_cons]
    have h5:(if (decide (0 <= x.lo) && decide (x.lo < (k:Int)))=true then 1 else 0)+(if (decide (x.lo=(k:Int)) && decide (1 <= x.hi))=true then 1 else 0) <= (if (decide (0 <= x.lo) && decide (x.lo < ((k+1:Nat):Int)))=true then 1 else 0):=by
     simp only [Bool.and_eq_true,decide_eq_true_eq]
     split <;> split <;> split <;> omega
    omega
  rw [aJ,List.length_append,j3];omega
theorem zcc {G:Nat -> List Rn} {P:Pst} (h:af G P) (D:List Rn) (hD:∀ r:Nat,r < 16 -> ∀ n,mem (G r) n -> (⟨(r:Int),n⟩:Rn)∈D):P.cloud.length <= D.length:=by
 obtain ⟨N,hN,rfl⟩:=h;exact Nat.le_trans (yq D 16 (fun r hr=>⟨(hN r hr).1,fun n hn=>hD r hr n (((hN r hr).2 n).1 hn)⟩)) List.countP_le_length
end
section
open Go.RowKit
def cW (R:List Rc) (e:K.En):Bool := !R.any (fun r=>cQ r e)
theorem zgA (R:List Rc) (e:K.En):cW R e=true↔R.countP (fun r=>cQ r e)=0:=by
 unfold cW;rw [Bool.not_eq_true',List.any_eq_false,List.countP_eq_zero]
def ApA (w w':World) (x:Ending) (L:List K.En) (R:List Rc) (n:Nat):Prop:=(K.chk L=0/\OkR R n/\K.dh w w' x (L.filter (cW R)) 0)∨(¬ (K.chk L=0/\OkR R n)/\K.dh w w' x [] 1)
end
end Go.Proofs.YtjffpimfngdggaaGreat
namespace Go.Proofs
open Go.Shelf
def Tryz.keysM_ren:Go.Shelf.Ren:=⟨fun | 7=>147 | 10=>188 | n=>n,fun | 23=>187 | 26=>9 | 3=>151 | 28=>113 | 0=>0 | 27=>112 | 33=>95 | 4=>4 | n=>n,fun | n=>n⟩
theorem Tryz.keysM:Go.Proofs.SlLaysZ.n7 Tryz.prog Tryz.keysM_ren:={
 mixed:=by kernel_rfl
 f7:=⟨Tryz.f147.name,by decide,Tryz.func147.trans (congrArg some (by kernel_rfl))⟩
 f10:=⟨Tryz.f188.name,by decide,Tryz.func188.trans (congrArg some (by kernel_rfl))⟩
 t0:=Tryz.underlying0
 a0:=Tryz.isAgg0
 z0:=Tryz.sizeOf0
 v0:=Tryz.zeroValue0
 t4:=Tryz.underlying4
 a4:=Tryz.isAgg4
 z4:=Tryz.sizeOf4
 v4:=Tryz.zeroValue4
 t23:=Tryz.underlying187
 a23:=Tryz.isAgg187
 z23:=Tryz.sizeOf187
 v23:=Tryz.zeroValue187
 t26:=Tryz.underlying9
 a26:=Tryz.isAgg9
 z26:=Tryz.sizeOf9
 v26:=Tryz.zeroValue9
 t27:=Tryz.underlying112
 a27:=Tryz.isAgg112
 z27:=Tryz.sizeOf112
 v27:=Tryz.zeroValue112
 t28:=Tryz.underlying113
 a28:=Tryz.isAgg113
 z28:=Tryz.sizeOf113
 v28:=Tryz.zeroValue113
 t33:=Tryz.underlying95
 a33:=Tryz.isAgg95
 z33:=Tryz.sizeOf95
 v33:=Tryz.zeroValue95 }
def Tryz.sortedM_ren:Go.Shelf.Ren:=⟨fun | 6=>59 | 8=>105 | 9=>106 | 11=>158 | 13=>160 | 12=>159 | 23=>201 | 24=>202 | 14=>192 | 15=>193 | 16=>194 | 17=>195 | 18=>196 | 19=>197 | 20=>198 | 21=>199 | 22=>200 | 25=>227 | 26=>228 | 27=>229 | 28=>230 | 29=>231 | 30=>232 | 31=>248 | n=>n,fun | 26=>9 | 28=>113 | 24=>110 | 0=>0 | 3=>3 | 37=>201 | 48=>230 | 50=>232 | 4=>4 | 40=>223 | 39=>222 | 45=>174 | 5=>5 | 9=>9 | 51=>247 | 55=>251 | 57=>263 | 58=>132 | 33=>95 | n=>n,fun | n=>n⟩
theorem Tryz.sortedM:Go.Proofs.SlLaysZ.n6 Tryz.prog Tryz.sortedM_ren:={
 mixed:=by kernel_rfl
 f6:=⟨Tryz.f59.name,by decide,Tryz.func59.trans (congrArg some (by kernel_rfl))⟩
 f8:=⟨Tryz.f105.name,by decide,Tryz.func105.trans (congrArg some (by kernel_rfl))⟩
 f11:=⟨Tryz.f158.name,by decide,Tryz.func158.trans (congrArg some (by kernel_rfl))⟩
 t0:=Tryz.underlying0
 a0:=Tryz.isAgg0
 z0:=Tryz.sizeOf0
 v0:=Tryz.zeroValue0
 t24:=Tryz.underlying110
 a24:=Tryz.isAgg110
 z24:=Tryz.sizeOf110
 v24:=Tryz.zeroValue110
 t26:=Tryz.underlying9
 a26:=Tryz.isAgg9
 z26:=Tryz.sizeOf9
 v26:=Tryz.zeroValue9
 t28:=Tryz.underlying113
 a28:=Tryz.isAgg113
 z28:=Tryz.sizeOf113
 v28:=Tryz.zeroValue113
 i26:=by kernel_rfl }
def Tryz.sortM_ren:Go.Shelf.Ren:=⟨fun | 6=>106 | 8=>160 | 9=>159 | 19=>201 | 20=>202 | 21=>192 | 22=>193 | 23=>194 | 24=>195 | 25=>196 | 26=>197 | 27=>198 | 28=>199 | 29=>200 | 36=>227 | 31=>228 | 32=>229 | 37=>230 | 38=>231 | 39=>232 | 41=>248 | n=>n,fun | 27=>110 | 29=>9 | 3=>3 | 32=>201 | 26=>110 | 0=>0 | 44=>230 | 46=>232 | 4=>4 | 36=>223 | 35=>222 | 41=>174 | 5=>5 | 9=>9 | 53=>247 | 57=>251 | 63=>263 | 64=>132 | n=>n,fun | n=>n⟩
theorem Tryz.sortM:Go.Proofs.SlLaysM.n6 Tryz.prog Tryz.sortM_ren:={
 mixed:=by kernel_rfl
 f6:=⟨Tryz.f106.name,by decide,Tryz.func106.trans (congrArg some (by kernel_rfl))⟩
 f8:=Tryz.func160.trans (congrArg some (by kernel_rfl))
 f9:=⟨Tryz.f159.name,by decide,Tryz.func159.trans (congrArg some (by kernel_rfl))⟩
 f19:=Tryz.func201.trans (congrArg some (by kernel_rfl))
 f20:=Tryz.func202.trans (congrArg some (by kernel_rfl))
 f21:=⟨Tryz.f192.name,by decide,Tryz.func192.trans (congrArg some (by kernel_rfl))⟩
 f22:=⟨Tryz.f193.name,by decide,Tryz.func193.trans (congrArg some (by kernel_rfl))⟩
 f23:=⟨Tryz.f194.name,by decide,Tryz.func194.trans (congrArg some (by kernel_rfl))⟩
 f24:=⟨Tryz.f195.name,by decide,Tryz.func195.trans (congrArg some (by kernel_rfl))⟩
 f25:=⟨Tryz.f196.name,by decide,Tryz.func196.trans (congrArg some (by kernel_rfl))⟩
 f26:=⟨Tryz.f197.name,by decide,Tryz.func197.trans (congrArg some (by kernel_rfl))⟩
 f27:=⟨Tryz.f198.name,by decide,Tryz.func198.trans (congrArg some (by kernel_rfl))⟩
 f28:=⟨Tryz.f199.name,by decide,Tryz.func199.trans (congrArg some (by kernel_rfl))⟩
 f29:=⟨Tryz.f200.name,by decide,Tryz.func200.trans (congrArg some (by kernel_rfl))⟩
 f31:=Tryz.func228.trans (congrArg some (by kernel_rfl))
 f32:=Tryz.func229.trans (congrArg some (by kernel_rfl))
 f36:=⟨Tryz.f227.name,by decide,Tryz.func227.trans (congrArg some (by kernel_rfl))⟩
 f37:=⟨Tryz.f230.name,by decide,Tryz.func230.trans (congrArg some (by kernel_rfl))⟩
 f38:=⟨Tryz.f231.name,by decide,Tryz.func231.trans (congrArg some (by kernel_rfl))⟩
 f39:=⟨Tryz.f232.name,by decide,Tryz.func232.trans (congrArg some (by kernel_rfl))⟩
 f41:=⟨Tryz.f248.name,by decide,Tryz.func248.trans (congrArg some (by kernel_rfl))⟩
 t0:=Tryz.underlying0
 a0:=Tryz.isAgg0
 z0:=Tryz.sizeOf0
 v0:=Tryz.zeroValue0
 t3:=Tryz.underlying3
 a3:=Tryz.isAgg3
 z3:=Tryz.sizeOf3
 v3:=Tryz.zeroValue3
 t4:=Tryz.underlying4
 a4:=Tryz.isAgg4
 z4:=Tryz.sizeOf4
 v4:=Tryz.zeroValue4
 t5:=Tryz.underlying5
 a5:=Tryz.isAgg5
 z5:=Tryz.sizeOf5
 v5:=Tryz.zeroValue5
 t9:=Tryz.underlying9
 a9:=Tryz.isAgg9
 z9:=Tryz.sizeOf9
 v9:=Tryz.zeroValue9
 t26:=Tryz.underlying110
 a26:=Tryz.isAgg110
 z26:=Tryz.sizeOf110
 v26:=Tryz.zeroValue110
 t27:=Tryz.underlying110
 a27:=Tryz.isAgg110
 z27:=Tryz.sizeOf110
 v27:=Tryz.zeroValue110
 t29:=Tryz.underlying9
 a29:=Tryz.isAgg9
 z29:=Tryz.sizeOf9
 v29:=Tryz.zeroValue9
 t32:=Tryz.underlying201
 a32:=Tryz.isAgg201
 z32:=Tryz.sizeOf201
 v32:=Tryz.zeroValue201
 t35:=Tryz.underlying222
 a35:=Tryz.isAgg222
 z35:=Tryz.sizeOf222
 v35:=Tryz.zeroValue222
 t36:=Tryz.underlying223
 a36:=Tryz.isAgg223
 z36:=Tryz.sizeOf223
 v36:=Tryz.zeroValue223
 t41:=Tryz.underlying174
 a41:=Tryz.isAgg174
 z41:=Tryz.sizeOf174
 v41:=Tryz.zeroValue174
 t44:=Tryz.underlying230
 a44:=Tryz.isAgg230
 z44:=Tryz.sizeOf230
 v44:=Tryz.zeroValue230
 t46:=Tryz.underlying232
 a46:=Tryz.isAgg232
 z46:=Tryz.sizeOf232
 v46:=Tryz.zeroValue232
 t53:=Tryz.underlying247
 a53:=Tryz.isAgg247
 z53:=Tryz.sizeOf247
 v53:=Tryz.zeroValue247
 t57:=Tryz.underlying251
 a57:=Tryz.isAgg251
 z57:=Tryz.sizeOf251
 v57:=Tryz.zeroValue251
 t63:=Tryz.underlying263
 a63:=Tryz.isAgg263
 z63:=Tryz.sizeOf263
 v63:=Tryz.zeroValue263
 t64:=Tryz.underlying132
 a64:=Tryz.isAgg132
 z64:=Tryz.sizeOf132
 v64:=Tryz.zeroValue132 }
end Go.Proofs
namespace Go.Proofs.YtjffpimfngdggaaGreat
open Go.RowKit Go.Maps Go.Sort Go.Shelf

theorem bw (m:Nat):AnyZ.SortsIn Tryz.prog Tryz.sortedM_ren Fence.wide m:=
 ⟨fun blk off cap ss W hH hblk dP=>callsIn_wide.2 (AnyM.slices_Sort_string Tryz.sortM blk off cap ss W hH hblk dP),
 fun p cap W=>callsIn_wide.2 (AnyM.slices_Sort_string_none Tryz.sortM p cap W)⟩
theorem zag (mb:Option Nat) (W:World):Calls Tryz.prog 147 #[.map mb] W fun e w'=>e = .returned (.func (.func 188) #[] #[.pointer (some ⟨W.heap.size,0,none⟩)])/\w'=W.alloc (.cells #[.map mb] 187):=
 (callsIn_wide (n:=5)).1 (AnyZ.keys_in Tryz.keysM Fence.wide 5 trivial rfl mb W)
def mi (w w':World) (e:Ending) (T:List (List UInt8)):Prop:=∃ v,e = .returned v/\w'.ownsRow w.heap.size 9 1 v T.length (T.map encStr)/\Below w.heap.size w w'
theorem jf {H:Type} (b nn:Nat) (D0:DataW H) (R:Value -> Option (DataW H × List MemPlace)) (w:World) (aM:w.ownsMap Tryz.prog 9 R b nn D0) (hmax:Maps.size D0 <= maxLen) (hbytes:Maps.size D0 * 16 <= 140737488355328) :
  Calls Tryz.prog 59 #[.func (.func 188) #[] #[.pointer (some ⟨w.heap.size,0,none⟩)]] (w.alloc (.cells #[.map (some b)] 187)) fun e w'=>∃ ss:List (List UInt8),ss.Perm (strKeys D0)/\mi (w.alloc (.cells #[.map (some b)] 187)) w' e (ss.mergeSort leB):=by
 have Cp:=aM.lt
 have Bb:SeqGives Fence.wide 2 Tryz.prog 188 #[.pointer (some ⟨w.heap.size,0,none⟩)] encStr (fun ss=>ss.Perm (strKeys D0)) (Maps.size D0) (w.alloc (.cells #[.map (some b)] 187)):=
  AnyZ.keys_gives (ρ := Tryz.keysM_ren) { Tryz.keysM with } Fence.wide _ trivial rfl (by omega) w.heap.size b nn D0 _ (by simp) (by simp) (by
   obtain ⟨es,clock,hb,Ft,hs,hD⟩:=aM
   exact ⟨es,clock,(Below.heap_alloc _ _ b Cp).trans hb,Ft,hs,hD⟩)
 have h:=AnyZ.sorted_in Tryz.sortedM Fence.wide 5 trivial trivial trivial trivial rfl (by omega) (bw _) (enters_of Tryz.func106 (by kernel_rfl) rfl) 188 #[.pointer (some ⟨w.heap.size,0,none⟩)] trivial (enters_of Tryz.func188 (by kernel_rfl) rfl) _ _ hmax hbytes _ Bb;refine ((callsIn_wide (n:=5)).1 h).mono ?_;rintro e w' ⟨v,ss,rfl,hS,dx,_,hb⟩;refine ⟨ss,hS,v,rfl,?_,hb⟩;have e1:(ss.mergeSort leB).length=ss.length:=(List.mergeSort_perm ss leB).length_eq;rw [e1];exact dx
end Go.Proofs.YtjffpimfngdggaaGreat
