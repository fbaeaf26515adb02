/- TCl TSr TMn TPs SXe SXs ZDg ZCk YDa YDb YDd SXn YDe YDf YDk SXa PVw LView TVf SXt YDh YDp YDg YDq YDr YEa -/
import Derived.Test.YtjffpimfngdggaaGreatTk
import Derived.Test.YtjffpimfngdggaaGreatFe28
import Derived.Test.YtjffpimfngdggaaGreatFe37
import Derived.Test.YtjffpimfngdggaaGreatFe17
import Derived.Test.YtjffpimfngdggaaGreatFe13
import Derived.Test.YtjffpimfngdggaaGreatFe34
import Derived.Test.YtjffpimfngdggaaGreatFe22
import Derived.Deep.CutRange
import Derived.Test.YtjffpimfngdggaaGreatFe36
import Derived.Test.YtjffpimfngdggaaGreatFe09
import Derived.Deep.MidRow
import Derived.Test.YtjffpimfngdggaaGreatFe32
import Derived.Test.YtjffpimfngdggaaGreatFe31
import Derived.Test.YtjffpimfngdggaaGreatFe12
import Derived.Test.YtjffpimfngdggaaGreatFe11
import Derived.Test.YtjffpimfngdggaaGreatFe10
import Derived.Test.YtjffpimfngdggaaGreatFe33
import Derived.Test.YtjffpimfngdggaaGreatFe00
import Derived.ProofKit
import Derived.OpenShut
import Derived.Lib.SmallJoins
import Derived.HandedShaped
import Derived.SizedLaws
import Derived.ChangeMaps5
import Derived.JoinedCond
import Derived.Test.YtjffpimfngdggaaGreatFe15
set_option maxRecDepth 100000
set_option maxHeartbeats 6400000
namespace Go.Proofs.YtjffpimfngdggaaGreat
section
open Go.RowKit
def ClE (e:K.En) (g:Fc):Prop:=∃ y∈g.es,K.al y e=true/\y≠e
def gV (e:K.En):Rn:=⟨e.rep,e.num⟩
def Jj (f g:Fc) (d:Rn) (b:Bool):Prop:=(¬ (av f/\av g)/\d=rn0/\b=false)∨(av f/\av g/\((b=false/\d=rn0/\∀ i,i < f.an -> ¬ ClE (f.es.getD i K.en0) g)∨(b=true/\∃ i,i < f.an/\ClE (f.es.getD i K.en0) g/\(∀ j,j < i -> ¬ ClE (f.es.getD j K.en0) g)/\d=gV (f.es.getD i K.en0))))
def ClA (w w':World) (x:Ending) (f g:Fc):Prop:=∃ (d:Rn) (b:Bool),x = .returned (.tuple #[RV d,.bool b])/\Jj f g d b/\Below w.heap.size w w'
theorem zgy {L:List K.En} {k:Nat} (h:k < L.length):L.getD k K.en0∈L:=by
 rw [List.getD_eq_getElem?_getD,List.getElem?_eq_getElem h];exact List.getElem_mem h
theorem zcY (x y:K.En):K.eqE x y=true↔x=y:=by
 constructor
 ·intro h;unfold K.eqE at h;simp only [Bool.and_eq_true,beq_iff_eq] at h;obtain ⟨⟨⟨h1,h2⟩,h3⟩,h4⟩:=h;have h5:=zab h3
  cases x;cases y;simp_all
 ·rintro rfl;exact K.kV _
attribute [local go_sem ↓] zq zp zB zz zV zU K.zx K.zw
attribute [local go_sem] zi zj zk zm zC zN zS ql K.zI K.zt K.zF
def uK (a:Array (Nat × Value)):Sem Value:=Instr.build 48 a
theorem zc8 (a:Array (Nat × Value)):Instr.build 48 a=uK a:=rfl
theorem zaV (w:World):(uK #[]).run Tryz.prog w = .ok (RV rn0) w:=by kernel_rfl
attribute [local go_sem ↓] zc8
attribute [local go_sem] zaV
end
section
open Go.RowKit
attribute [local go_sem ↓] K.zx K.zw K.qz zq zp zZ zY
attribute [local go_sem] K.zI K.zt zi zj
def EqF (f g:Fc):Prop:=f.es=g.es/\f.p.P=g.p.P/\plR f.rs=plR g.rs
attribute [local go_sem ↓] zB zz
attribute [local go_sem] zk zm
end
section
open Go.RowKit
structure IsF (h:Fc) (E:K.En -> Prop) (M:Nat -> Int -> Prop) (R:Rp -> Prop):Prop where
 form:av h
 len:h.es.length=h.an/\h.rs.length=h.rn
 es:∀ x,x∈h.es↔E x
 p:∀ r,r < 16 -> ∀ n,mem (ae h.p.P r) n↔M r n
 rs:∀ y,y∈plR h.rs↔R y
def rq (f g:Fc):Prop:=av f/\av g/\∀ e∈f.es,¬ ClE e g
theorem zaS {x y:K.En} (h:K.al x y=true):K.al y x=true:=by
 unfold K.al at h ⊢;simp only [Bool.and_eq_true,beq_iff_eq] at h ⊢;exact ⟨h.1.symm,h.2.symm⟩
theorem rq.symm {f g:Fc} (h:rq f g):rq g f:=⟨h.2.1,h.1,fun e he ⟨y,hy,hd,ch⟩=>h.2.2 y hy ⟨e,he,zaS hd,fun q=>ch q.symm⟩⟩
attribute [local go_sem ↓] zB zz zV zU
attribute [local go_sem] zk zm zC zN zS
end
section
open Go.RowKit
def hrd (f:Fc) (r:Nat) (n:Int):Prop:=mem (cr (f.es.map aa) r) n∨mem (ae f.p.P r) n
def PsD (f:Fc) (P:Pst) (er:Int):Prop:=(¬ av f/\er=1/\P=pv0.P)∨(av f/\er=0/\aj P/\∀ r,r < 16 -> ∀ n,mem (ae P r) n↔hrd f r n)
def PsA (w w':World) (e:Ending) (f:Fc):Prop:=∃ (p:Pv) (er:Int),e = .returned (.tuple #[PV p,.int .i64 er])/\am w' p/\du w.heap.size p/\Below w.heap.size w w'/\PsD f p.P er
attribute [local go_sem ↓] zq zp zB zz x4
attribute [local go_sem] zi zj zk zm qN
theorem wI (f:Fc) (w:World) (hF:aV w f):Calls Tryz.prog 26 #[FaV (mkF f)] w fun e w'=>PsA w w' e f:=by
 have b1:=ze w (.cells (FaC (mkF f)) 29);have X1:=qi w (mkF f);obtain ⟨w1,cR⟩:∃ w1,w.alloc (.cells (FaC (mkF f)) 29)=w1:=⟨_,rfl⟩
 have mo:w1.heap.size=w.heap.size+1:=by rw [<- cR];simp
 rw [cR] at b1 X1;have x2:aA (w1.alloc (.cells #[.slice none 0 0,.slice none 0 0] 26)) w1.heap.size pv0:=zr w1 pv0;have b2:=ze w1 (.cells #[.slice none 0 0,.slice none 0 0] 26);obtain ⟨w2,fi⟩:∃ w2,w1.alloc (.cells #[.slice none 0 0,.slice none 0 0] 26)=w2:=⟨_,rfl⟩;rw [fi] at x2 b2;rw [mo] at x2;obtain ⟨G,dF⟩:∃ G,w.heap.size=G:=⟨_,rfl⟩;rw [dF] at X1 x2 mo;have HX:=hide (X1.below b2);have HZ:=hide x2;have aq:=hide (b1.trans (b2.mono b1.size));have HF:=hide (hF.below aq.out);have fU:Hid (w.heap.size=G):=dF;clear hF b1 b2 X1 x2;have lf:=qy HX.out;go_enter Tryz.func26,Tryz.ntmps26;go_wp2_with fail;clear cR fi mo dF lf;refine (j4 f _ HF.out).mono ?_;rintro e w3 ⟨x,rfl,hx,b3⟩;have aB:=wTr aq b3;have fL:=hide (HX.out.below b3);have tu:=hide (HZ.out.below b3);have rh:=hide (HF.out.below b3)
 clear b3;rcases hx with ⟨rfl,h1⟩ | ⟨rfl,h1⟩;rotate_left
 ·have t6:(stP (.pointer (some ⟨G+1,0,none⟩)) (.agg #[.slice none 0 0,.slice none 0 0])).run Tryz.prog w3 = .ok () (w3.setRow (G+1) (PC pv0)):=qQ (p':=pv0) tu.out;have sh:Hid (aA (w3.setRow (G+1) (PC pv0)) (G+1) pv0):=setRow_heap _ _ _ _ _ _ tu.out;have HE:Hid (PsA w (w3.setRow (G+1) (PC pv0)) (.returned (.tuple #[PV pv0,.int .i64 1])) f):=⟨pv0,1,rfl,am.zero _,⟨fun ad h=>(by cases h),fun ad h=>(by cases h)⟩,zh aB.out (by rw [fU.out];omega),.inl ⟨h1,rfl,rfl⟩⟩;clear h1;go_wp2_with fail;clear t6;refine bodyPost_ret (lX rfl rfl rfl sh.out) rfl ?_;exact HE.out
 have lB:=hide h1;clear h1;obtain ⟨c0,-⟩:=fL.out.cs;go_wp2_with fail;clear c0;refine (zc0 f.ao f.an f.ac f.es _ rh.out.es).mono ?_;rintro e w4 ⟨b4,⟨hc,p,rfl,S4,n4,C4⟩ | ⟨hc,-⟩⟩;rotate_left
 ·exact absurd ((vG rh.out.es.1).2 lB.out.1) hc
 obtain ⟨g5,iD⟩:∃ g,w4.heap.size=g:=⟨_,rfl⟩;have b5:=ze w4 (.cells #[.slice none 0 0,.slice none 0 0] 26);have x5:aA (w4.alloc (.cells #[.slice none 0 0,.slice none 0 0] 26)) w4.heap.size pv0:=zr w4 pv0
 have z5:(w4.alloc (.cells #[.slice none 0 0,.slice none 0 0] 26)).heap.size=w4.heap.size+1:=by simp
 obtain ⟨w5,pe⟩:∃ w5,w4.alloc (.cells #[.slice none 0 0,.slice none 0 0] 26)=w5:=⟨_,rfl⟩;rw [pe] at b5 x5 z5;rw [iD] at x5 z5;have s5:=qQ (p':=p) x5;have B6:Below w4.heap.size w4 (w5.setRow g5 (PC p)):=zh b5 (by omega);have X6:aA (w5.setRow g5 (PC p)) g5 p:=setRow_heap _ _ _ _ _ _ x5;obtain ⟨w6,Ee⟩:∃ w6,w5.setRow g5 (PC p)=w6:=⟨_,rfl⟩;rw [Ee] at s5 B6 X6;have b46:=b4.trans (B6.mono b4.size);have fQ:=wTr aB b46;have AV:=hide (fL.out.below b46);have FN:=hide (tu.out.below b46);have Gr:=hide (rh.out.below b46);have LB:=hide (S4.below B6);have NK:=hide X6;have Kp:=hide C4
 have lp:=zl X6.at
 have lq:=zl AV.out.past;have sT:=uL w6 p f.p LB.out Gr.out.p;have b7:=ze w6 (.cells #[.slice p.vo p.vn p.vc,.slice p.co p.cn p.cc,.slice f.p.vo f.p.vn f.p.vc,.slice f.p.co f.p.cn f.p.cc] 26);have lb:=qN p f.p w6;obtain ⟨g7,fZ⟩:∃ g7,w6.heap.size=g7:=⟨_,rfl⟩;obtain ⟨w7,ut⟩:∃ w7,w6.alloc (.cells #[.slice p.vo p.vn p.vc,.slice p.co p.cn p.cc,.slice f.p.vo f.p.vn f.p.vc,.slice f.p.co f.p.cn f.p.cc] 26)=w7:=⟨_,rfl⟩;rw [ut] at sT b7 lb;rw [fZ] at sT lb;have Gg:=hide sT;have dH:=wTr fQ b7;have Fb:=hide (FN.out.below b7);clear sT b7 hc S4 n4 C4 b4 b5 x5 B6 X6 b46 Ee;go_wp2_with fail;clear lp lq lb s5 pe iD fZ ut z5;refine (q9 (some ⟨g7,0,none⟩) 2 2 [p,f.p] _ Gg.out (zfq (zW.1 Kp.out.canon) lB.out.2.1) (by decide)).mono ?_;rintro e w8 ⟨q,rfl,S8,n8,b8,C8⟩
 have hz:G+1+1 <= w7.heap.size:=by have:=Fb.out.lt;omega
 obtain ⟨s1,e1,e2,e3,e4⟩:=qU (w:=w) (Fb.out.below b8) S8 (n8.mono hz) (dH.out.trans (b8.mono dH.out.size)) (by rw [fU.out];omega);have dW:=hide e1
 have HE:Hid (PsA w (w8.setRow (G+1) (PC q)) (.returned (.tuple #[PV q,.int .i64 0])) f):=⟨q,0,rfl,e2,e3,e4,.inr ⟨lB.out,rfl,zW.1 C8.canon,fun r hr n=>by
  rw [qf C8 r hr n]
  show mem (ae p.P r++(ae f.p.P r++[])) n↔_
  rw [List.append_nil,mem_append,qf Kp.out r hr n]
  exact Iff.rfl⟩⟩
 clear S8 n8 b8 C8 e1 e2 e3 e4 hz;go_wp2_with fail;clear s1;refine bodyPost_ret (lX rfl rfl rfl dW.out) rfl ?_;exact HE.out
end
section
open Go.RowKit
attribute [local go_sem ↓] zq zp zB zz zL zK qX x4
attribute [local go_sem] zi zj zk zm zv qN xH qD zE
end
section
open Go.RowKit
def LiA (w w':World) (x:Ending) (s:Fc):Prop:=∃ ao n c L er,x = .returned (.tuple #[.slice ao n c,.int .i64 er])/\K.aD w' ao n c L/\Below w.heap.size w w'/\((aK s/\er=0/\L=s.es)∨(¬ aK s/\er=1/\L=[]))
def PaA (w w':World) (x:Ending) (s:Fc):Prop:=∃ p er,x = .returned (.tuple #[PV p,.int .i64 er])/\am w' p/\Below w.heap.size w w'/\((aK s/\er=0/\p.P=s.p.P)∨(¬ aK s/\er=1/\p=pv0))
attribute [local go_sem ↓] zq zp zL zK yw
attribute [local go_sem] zi zj zk zm zej zE
end
section
open Go.RowKit
variable {w w' : World} {g : Nat}
structure nW where
 hvo:Option Addr
 hvn:Nat
 hvc:Nat
 hco:Option Addr
 hcn:Nat
 hcc:Nat
 lvo:Option Addr
 lvn:Nat
 lvc:Nat
 lco:Option Addr
 lcn:Nat
 lcc:Nat
def di0:nW:=⟨none,0,0,none,0,0,none,0,0,none,0,0⟩
def DiC (m:nW):Array Value:=#[.slice m.hvo m.hvn m.hvc,.slice m.hco m.hcn m.hcc,.slice m.lvo m.lvn m.lvc,.slice m.lco m.lcn m.lcc]
abbrev DiV (m:nW):Value:=.agg (DiC m)
theorem xK (m:nW):(DiC m).size=4:=rfl
theorem xk (m:nW):(DiV m).cells=DiC m:=by simp [Value.cells]
structure NA (w:World) (a:Addr) (m:nW):Prop where
 c0:w.cell? a=some (.slice m.hvo m.hvn m.hvc)
 c1:w.cell? (a.add 1)=some (.slice m.hco m.hcn m.hcc)
 c2:w.cell? (a.add 2)=some (.slice m.lvo m.lvn m.lvc)
 c3:w.cell? (a.add 3)=some (.slice m.lco m.lcn m.lcc)
end
section
open Go.RowKit
attribute [local go_sem ↓] zq zp
attribute [local go_sem] zi zj xk xK
variable {w w' w2 W W' : World} {g : Nat}

structure Dg where
 h:Pv
 l:Pv
def mkD (d:Dg):nW:=⟨d.h.vo,d.h.vn,d.h.vc,d.h.co,d.h.cn,d.h.cc,d.l.vo,d.l.vn,d.l.vc,d.l.co,d.l.cn,d.l.cc⟩
def EA (w:World) (d:Dg):Prop:=am w d.h/\am w d.l
def InP (a b:Pst):Prop:=∀ r,r < 16 -> ∀ n,mem (ae a r) n -> mem (ae b r) n
def ov (H L:Pst):Prop:=aj H/\aj L/\InP L H
def CkD (w w':World) (e:Ending) (P:Prop):Prop:=∃ x,e = .returned (.int .i64 x)/\((x=1/\¬ P)∨(x=0/\P))/\Below w.heap.size w w'
end
section
open Go.RowKit
def dz0:Dg:=⟨pv0,pv0⟩
def dQ (f:Fc):List K.En:=f.es.filter (lvB f.p.P f.rs)
theorem zhw (f:Fc):rX f=dQ f:=by
 unfold rX dQ;rw [List.filter_filter];congr 1
 funext e
 unfold lvB pkB
 cases inB f.p.P e <;> cases cW f.rs e <;> rfl
def DoF (f:Fc) (d:Dg):Prop:=dj f d.h.P/\af (cr ((dQ f).map aa)) d.l.P
def DoS (s:Fc) (d:Dg):Prop:=d.h.P=s.p.P/\af (cr (s.es.map aa)) d.l.P
def EqD (a b:Dg):Prop:=a.h.P=b.h.P/\a.l.P=b.l.P
def OfR (P:Prop) (D:Dg -> Prop) (d:Dg) (er:Int):Prop:=(¬ P/\er=1/\d=dz0)∨(P/\er=0/\D d)
def OfE (w w':World) (x:Ending) (P:Prop) (D:Dg -> Prop):Prop:=∃ d er,x = .returned (.tuple #[DiV (mkD d),.int .i64 er])/\EA w' d/\Below w.heap.size w w'/\OfR P D d er
theorem bU {f:Fc} {P:Pst} {er:Int} (h:PsD f P er):(¬ av f/\er=1/\P=pv0.P)∨(av f/\er=0/\dj f P):=by
 rcases h with h | ⟨h1,h2,h3,h4⟩
 ·exact .inl h
 ·exact .inr ⟨h1,h2,h3,h4⟩
end
section
open Go.RowKit
def DgS (w w':World) (e:Ending) (D:Dg -> Prop):Prop:=∃ d,e = .returned (DiV (mkD d))/\EA w' d/\Below w.heap.size w w'/\D d
theorem zfE:(#[.slice none 0 0,.slice none 0 0,.slice none 0 0,.slice none 0 0]:Array Value)=DiC (mkD dz0):=rfl
attribute [local go_sem ↓] zq zp zB zz zL zK
attribute [local go_sem] zi zj zE zk zm xk xK zfE
end
section
open Go.RowKit
def MnD (a b q:Pst):Prop:=∃ C:Nat -> List Rn,(∀ r,r < 16 -> cH (ae a r) (ae b r) (C r))/\af C q
theorem MnD.inB {a b q:Pst} (h:MnD a b q) (e:K.En):inB q e=true↔inB a e=true/\¬ inB b e=true:=by
 obtain ⟨C,hC,hq⟩:=h;by_cases h0:0 <= e.rep/\e.rep < 16
 ·rw [yg h0,yg h0,yg h0,qf hq _ (by omega),(hC _ (by omega)).2 e.num]
 ·constructor
  ·intro h;exact absurd (zaj h) h0
  ·intro h;exact absurd (zaj h.1) h0
def LkD (L:List K.En) (P:Pst) (d:Dg) (N:List K.En) (Q:Pst):Prop:=N=L.filter (pkB d.h.P false)/\aj Q/\∀ e,inB Q e=true↔(inB P e=true/\¬ ∃ x∈L,aa x=aa e)/\¬ (inB d.h.P e=true/\¬ inB d.l.P e=true)
def LkG (w w':World) (x:Ending) (L:List K.En) (P:Pst) (d:Dg):Prop:=∃ no nn nc N q,x = .returned (.tuple #[.slice no nn nc,PV q])/\K.aD w' no nn nc N/\am w' q/\Below w.heap.size w w'/\LkD L P d N q.P
def LkJ (w W:World) (G gx gy:Nat) (no:Option Addr) (nn nc:Nat) (N:List K.En) (m1 m2:Pv):Prop:=aA W gx m1/\aA W gy m2/\am W m1/\am W m2/\aA W (G+2) pv0/\K.aD W no nn nc N/\Below w.heap.size w W
attribute [local go_sem ↓] zq zp
attribute [local go_sem] zi zj zE xk xK
end
section
open Go.RowKit
attribute [local go_sem ↓] zq zp zL zK qX x4
attribute [local go_sem] zi zj zk zm zv qN xH qD zE
theorem zdi (N M:Nat) (hNM:N+M <= 4) (a b:Fc) (w:World) (hA:SwB N w a) (hB:SwB M w b):Calls Tryz.prog 75 #[FaV (mkF a),FaV (mkF b)] w fun e w'=>SwJ (N+M) w w' e (SjD a b):=by
 obtain ⟨w1,cR,lQ,Bh,aN,z1⟩:=oB w a b;have b2:=ze w1 (.cells (FaC (mkF fz0)) 31);have X2:=qr w1 (mkF fz0);rw [z1] at X2;obtain ⟨wk,aY⟩:∃ w2,w1.alloc (.cells (FaC (mkF fz0)) 31)=w2:=⟨_,rfl⟩;rw [aY] at b2 X2;have HX:=hide (lQ.out.below b2);have HY:=hide (Bh.out.below b2);have aq:=wTr aN b2;obtain ⟨G,dF⟩:∃ G,w.heap.size=G:=⟨_,rfl⟩;rw [dF] at HX HY X2 z1;have HZ:=hide X2;have fU:Hid (w.heap.size=G):=dF;have HA:=hide (hA.below aq.out);have HB:=hide (hB.below aq.out);have HN:=hide hNM;have py:a.rn <= N * 209716/\a.an <= N * 1048576:=⟨hA.rn,hA.an⟩;have LU:b.rn <= M * 209716/\b.an <= M * 1048576:=⟨hB.rn,hB.an⟩
 have AG:Hid (a.rn+b.rn <= (N+M) * 209716/\a.an+b.an <= (N+M) * 1048576/\a.rn+b.rn <= 838864/\a.an+b.an <= 4194304):=by
  have e1:(N+M) * 209716=N * 209716+M * 209716:=Nat.add_mul _ _ _;have e2:(N+M) * 1048576=N * 1048576+M * 1048576:=Nat.add_mul _ _ _;exact ⟨by omega,by omega,by omega,by omega⟩
 have l1:=qj HX.out;have l2:=qj HY.out;clear hA hB b2 X2 lQ Bh aN py LU hNM;go_enter Tryz.func75,Tryz.ntmps75;go_wp2_with fail;clear cR aY dF z1 l1 l2;refine (zdj a b _ (HA.out.u (by have:=HN.out;omega)) (HB.out.u (by have:=HN.out;omega))).mono ?_;rintro e w3 ⟨x,rfl,hx,b3⟩;have aB:=hide b3;clear b3;rcases hx with ⟨hf,rfl⟩ | ⟨hf,rfl⟩;rotate_left
 ·have Az:=HZ.out.below aB.out;have st:=x9 (m':=mkF fz0) Az;have dW:Hid (aE (w3.setRow (G+2) (FaC (mkF fz0))) (G+2) (mkF fz0)):=Az.setRow;have HE:Hid (SwJ (N+M) w (w3.setRow (G+2) (FaC (mkF fz0))) (.returned (.tuple #[FaV (mkF fz0),.int .i64 1])) (SjD a b)):=⟨fz0,1,rfl,zia _ _,zh (aq.out.trans (aB.out.mono aq.out.size)) (by rw [fU.out];omega),.inl ⟨hf,rfl,rfl⟩⟩;clear hf Az;go_wp2_with fail;clear st;refine bodyPost_ret (iY rfl rfl rfl dW.out) rfl ?_;exact HE.out
 have lB:=hide hf;clear hf;obtain ⟨c0,-⟩:=(HX.out.below aB.out).cs;obtain ⟨d0,-⟩:=(HY.out.below aB.out).cs;have lp:=zl (HX.out.below aB.out).past;have lq:=zl (HY.out.below aB.out).past;go_wp2_with fail;clear c0 d0 lp lq;refine (zeG a.ao b.ao a.an a.ac b.an b.ac a.es b.es a.p b.p _ (HA.out.ok.es.below aB.out) (HB.out.ok.es.below aB.out) (HA.out.ok.p.below aB.out) (HB.out.ok.p.below aB.out)).mono ?_;rintro e w4 ⟨za,zn,zc,Z,er,rfl,SZ,b4,MD⟩;have aQ:=wTr aB b4;have IF:=hide MD;have Co:=hide SZ;clear b4 MD SZ;by_cases h0:er=0;rotate_left
 ·have dn:((er:Int) == 0)=false:=by simpa using h0
  have ee:decide ((er:Int)=0)=false:=by simpa using h0
  have Az:=HZ.out.below aQ.out;have st:=x9 (m':=mkF fz0) Az;have dW:Hid (aE (w4.setRow (G+2) (FaC (mkF fz0))) (G+2) (mkF fz0)):=Az.setRow;have HE:Hid (SwJ (N+M) w (w4.setRow (G+2) (FaC (mkF fz0))) (.returned (.tuple #[FaV (mkF fz0),.int .i64 er])) (SjD a b)):=⟨fz0,er,rfl,zia _ _,zh (aq.out.trans (aQ.out.mono aq.out.size)) (by rw [fU.out];omega),.inr ⟨lB.out,Z,er,IF.out,.inl ⟨h0,rfl,rfl⟩⟩⟩;clear Az;go_wp2_with fail;clear st;refine bodyPost_ret (iY rfl rfl rfl dW.out) rfl ?_;exact HE.out
 subst h0
 have JQ:Hid (K.chk Z=0/\Z.length <= a.es.length+b.es.length):=by
  rcases IF.out with ⟨-,-,h⟩ | ⟨-,-,-,h⟩ | ⟨h1,-,-,h2,h3⟩
  ·cases h
  ·cases h
  ·exact zgo h1 h2 h3
 have lp:=zl (HX.out.below aQ.out).past;have lq:=zl (HY.out.below aQ.out).past;have sT:=uL w4 a.p b.p (HA.out.ok.p.below aQ.out) (HB.out.ok.p.below aQ.out);have b7:=ze w4 (.cells #[.slice a.p.vo a.p.vn a.p.vc,.slice a.p.co a.p.cn a.p.cc,.slice b.p.vo b.p.vn b.p.vc,.slice b.p.co b.p.cn b.p.cc] 26);have lb:=qN a.p b.p w4;obtain ⟨g7,fZ⟩:∃ g7,w4.heap.size=g7:=⟨_,rfl⟩;obtain ⟨w7,ut⟩:∃ w7,w4.alloc (.cells #[.slice a.p.vo a.p.vn a.p.vc,.slice a.p.co a.p.cn a.p.cc,.slice b.p.vo b.p.vn b.p.vc,.slice b.p.co b.p.cn b.p.cc] 26)=w7:=⟨_,rfl⟩;rw [ut] at sT b7 lb;rw [fZ] at sT lb;have Gg:=hide sT;have dH:=wTr aQ b7;have Fb:=hide (Co.out.below b7);clear sT b7;go_wp2_with fail;clear lp lq lb fZ ut;refine (q9 (some ⟨g7,0,none⟩) 2 2 [a.p,b.p] _ Gg.out (zfq lB.out.1.1.2.1 lB.out.2.1.2.1) (by decide)).mono ?_
 rintro e wq ⟨q,rfl,Sq,-,bq,Cq⟩;obtain ⟨g8,KW⟩:∃ g,wq.heap.size=g:=⟨_,rfl⟩;obtain ⟨w8,a8,X8,B8,-⟩:=it wq q g8 KW;have b78:=bq.trans (B8.mono bq.size);have ia:=wTr dH b78;have Iu:=hide (Fb.out.below b78);have AE:Hid (aA w8 g8 q/\am w8 q):=⟨X8,Sq.below B8⟩;have BY:=hide Cq;clear Sq bq Cq X8 B8 b78;obtain ⟨-,c3⟩:=(HX.out.below ia.out).cs;obtain ⟨-,d3⟩:=(HY.out.below ia.out).cs;go_wp2_with fail;clear c3 d3 a8 KW;refine (zah a.ro b.ro a.rn a.rc b.rn b.rc a.rs b.rs _ ((HA.out.ok.row HA.out.row).below ia.out) ((HB.out.ok.row HB.out.row).below ia.out) (by have:=AG.out;omega)).mono ?_;rintro e w9 (⟨-,-,⟨uo,un,uc⟩,U,rfl,GU,nU,UU⟩ | ⟨fw,-,-⟩);rotate_left
 ·exact absurd ⟨lB.out.1.1.2.2,lB.out.2.1.2.2⟩ fw
 have ix:=wTr ia GU.below;have Fw:=hide (Iu.out.below GU.below);have Jp:Hid (aA w9 g8 q/\am w9 q):=⟨AE.out.1.below GU.below,AE.out.2.below GU.below⟩;have HU:Hid (RcT w9 uo un uc U/\iQ a.rs b.rs U/\un <= a.rn+b.rn/\U.length=un):=⟨GU.row,UU,nU,GU.src.len⟩;have Dx:=hide (zjt HU.out.2.1 HA.out.cl HB.out.cl)
 have Jx:Hid (OkR U un):=by have h:=HU.out.2.1.ok;rw [HU.out.2.2.2] at h;exact h
 rw [show HsV ⟨uo,un,uc⟩=Value.slice uo un uc from rfl];clear GU nU UU
 have Jo:Hid (zn <= a.an+b.an):=by
  have h1:=JQ.out.2;have h2:=Co.out.1;have h3:=HA.out.ok.es.1;have h4:=HB.out.ok.es.1
  show zn <= a.an+b.an
  omega
 go_wp2_with fail;refine (yx za uo zn zc un uc Z U _ Fw.out HU.out.1.src (ziJ (by have:=HU.out.2.2;have:=AG.out;omega) Dx.out) (zi1 (by have:=HU.out.2.2;have:=AG.out;omega) (by have:=Jo.out;have:=AG.out;omega))).mono ?_;rintro e wa (⟨-,-,ya,yn,yc,rfl,SY,ba,-⟩ | ⟨fw,-⟩);rotate_left
 ·exact absurd ⟨JQ.out.1,Jx.out⟩ fw
 have mR:=wTr ix ba;have FH:Hid (aA wa g8 q/\am wa q):=⟨Jp.out.1.below ba,Jp.out.2.below ba⟩;have Le:=hide (HU.out.1.below ba);have L0:=hide SY
 have L8:Hid (yn <= a.an+b.an):=by
  have h1:=SY.1;have h2:=List.length_filter_le (cW U) Z;have h3:=Co.out.1;have h4:=Jo.out
  show yn <= a.an+b.an
  omega
 clear SY ba
 have lp:=zl FH.out.1.at
 go_wp2_with fail;clear lp;refine (jD uo un uc U q _ Le.out FH.out.2 (by have:=HU.out.2.2;have:=AG.out;omega)).mono ?_;rintro e wb (⟨-,-,⟨fo,fn,fc⟩,F,rfl,GF,nF,WF⟩ | ⟨fw,-,-⟩);rotate_left
 ·exact absurd ⟨Jx.out,zW.1 BY.out.canon⟩ fw
 have sX:=wTr mR GF.below;have Ju:Hid (aA wb g8 q/\am wb q):=⟨FH.out.1.below GF.below,FH.out.2.below GF.below⟩;have L5:=hide (L0.out.below GF.below);have Az:=HZ.out.below sX.out;have st:=x9 (m':=mkF ⟨ya,yn,yc,[],q,fo,fn,fc,[]⟩) Az;have dW:Hid (aE (wb.setRow (G+2) (FaC (mkF ⟨ya,yn,yc,[],q,fo,fn,fc,[]⟩))) (G+2) (mkF ⟨ya,yn,yc,Z.filter (cW U),q,fo,fn,fc,F⟩)):=Az.setRow
 have HE:Hid (SwJ (N+M) w (wb.setRow (G+2) (FaC (mkF ⟨ya,yn,yc,[],q,fo,fn,fc,[]⟩))) (.returned (.tuple #[FaV (mkF ⟨ya,yn,yc,Z.filter (cW U),q,fo,fn,fc,F⟩),.int .i64 0])) (SjD a b)):=
  ⟨_,0,rfl,⟨aV.offW (f:=⟨ya,yn,yc,Z.filter (cW U),q,fo,fn,fc,F⟩) ⟨L5.out,Ju.out.2,GF.src⟩ Az _,⟨GF.room,GF.nil⟩,by have h1:=HU.out.2.2.1;have h2:=AG.out.1;have h3:fn <= un:=nF;show fn <= _;omega,by have h1:=L8.out;have h2:=AG.out.2.1;show yn <= _;omega,zhk WF Dx.out⟩,
   zh (aq.out.trans (sX.out.mono aq.out.size)) (by rw [fU.out];omega),.inr ⟨lB.out,Z,0,IF.out,.inr ⟨rfl,rfl,U,HU.out.2.1,rfl,BY.out,WF⟩⟩⟩
 have lp:=zl Ju.out.1.at
 rw [show HsV ⟨fo,fn,fc⟩=Value.slice fo fn fc from rfl];clear GF nF WF Az;go_wp2_with fail;clear lp st;refine bodyPost_ret (iY rfl rfl rfl dW.out) rfl ?_;exact HE.out
end
section
open Go.RowKit
def uN (L:List K.En) (P:Pst) (d:Dg) (e:K.En):Prop:=(inB P e=true/\¬ ∃ x∈L,aa x=aa e)/\¬ (inB d.h.P e=true/\¬ inB d.l.P e=true)
def LsD (s:Fc) (d:Dg) (l:Fc):Prop:=l.es=s.es.filter (pkB d.h.P false)/\aj l.p.P/\(∀ e,inB l.p.P e=true↔(okD (aa e)=true/\∃ x∈l.es,aa x=aa e)∨uN s.es s.p.P d e)/\iA s.rs s.p.P l.rs
def LsR (s:Fc) (d:Dg) (l:Fc) (er:Int):Prop:=(¬ (aK s/\ov d.h.P d.l.P)/\er=1/\l=fz0)∨((aK s/\ov d.h.P d.l.P)/\er=0/\LsD s d l)
def LsE (N:Nat) (w w':World) (x:Ending) (s:Fc) (d:Dg):Prop:=∃ l er,x = .returned (.tuple #[FaV (mkF l),.int .i64 er])/\SwB N w' l/\Below w.heap.size w w'/\LsR s d l er
attribute [local go_sem ↓] zq zp zL zK qX x4
attribute [local go_sem] zi zj zE xk xK zk zm zv qD xH qN
end
section
open Go.RowKit
def LfD (f:Fc) (d:Dg) (l:Fc):Prop:=l.es=(dQ f).filter (pkB d.h.P false)/\∃ H,dj f H/\aj l.p.P/\(∀ e,inB l.p.P e=true↔uN (dQ f) H d e)/\iA f.rs H l.rs
def LfR (f:Fc) (d:Dg) (l:Fc) (er:Int):Prop:=(¬ (av f/\ov d.h.P d.l.P)/\er=1/\l=fz0)∨((av f/\ov d.h.P d.l.P)/\er=0/\LfD f d l)
def LfE (N:Nat) (w w':World) (x:Ending) (f:Fc) (d:Dg):Prop:=∃ l er,x = .returned (.tuple #[FaV (mkF l),.int .i64 er])/\SwB N w' l/\Below w.heap.size w w'/\LfR f d l er
attribute [local go_sem ↓] zq zp zB zz xw
attribute [local go_sem] zi zj zE xk xK zk zm zv qR kD
end
section
open Go.RowKit
def dk1:K.En:=⟨0,1,⟨#[65]⟩,5⟩
def dk2:K.En:=⟨0,2,⟨#[65]⟩,6⟩
def dkP:Pst:=⟨[1,1],[]⟩
def dkH:Pst:=⟨[2,1],[]⟩
def dkL:Pst:=⟨[],[⟨0,2,2⟩]⟩
def dkC:Array Value:=#[.int .i64 0,.int .i64 1,.string ⟨#[65]⟩,.int .i64 5,.int .i64 0,.int .i64 2,.string ⟨#[65]⟩,.int .i64 6]
def BD (a:Array (Nat × Value)):Sem Value:=Instr.buildSlice 22 2 a
theorem zfr (a:Array (Nat × Value)):Instr.buildSlice 22 2 a=BD a:=rfl
theorem zf1 (w:World):(BD #[(0,.agg #[.int .i64 0,.int .i64 1,.string ⟨#[65]⟩,.int .i64 5]),(1,.agg #[.int .i64 0,.int .i64 2,.string ⟨#[65]⟩,.int .i64 6])]).run Tryz.prog w = .ok (.slice (some ⟨w.heap.size,0,none⟩) 2 2) (w.alloc (.cells dkC 50)):=by kernel_rfl
theorem zdn (a v:Option Addr) (n c m d:Nat) (w:World):(lu #[(0,.slice a n c),(1,.agg #[.slice v m d,.slice none 0 0])]).run Tryz.prog w = .ok (.agg #[.slice a n c,.slice v m d,.slice none 0 0,.slice none 0 0]) w:=by kernel_rfl
theorem rO (w:World) (m:Fc) (g:Nat) (hg:w.heap.size=g):∃ w':World,(nN (.pointer (some ⟨g,0,none⟩)) (.agg (FaC (mkF m)))).run Tryz.prog (w.alloc (.cells (FaC (mkF fz0)) 29)) = .ok () w'/\aF w' g (mkF m)/\Below w.heap.size w w'/\w'.heap.size=w.heap.size+1:=by
 subst hg;exact ⟨_,kA (qi w _),(qi w _).setRow,zh (ze w _) (Nat.le_refl _),by simp [World.setRow]⟩
attribute [local go_sem ↓] zq zp zB zz xw zfr zch yw zci
attribute [local go_sem] zi zj zk zm zv xk xK zdn zf1 bN bO kC
end
section
open Go.RowKit
def sx1:K.En:=⟨0,1,⟨#[65]⟩,5⟩
def sxP:Pst:=⟨[1],[]⟩
def A1D (s:Fc):Prop:=s.es=[sx1]/\s.an=1/\s.p.P=sxP/\s.rs=[]/\s.rn=0/\s.rc=0
def sxC:Array Value:=#[.int .i64 0,.int .i64 1,.string ⟨#[65]⟩,.int .i64 5]
def EH (a:Array (Nat × Value)):Sem Value:=Instr.buildSlice 22 1 a
theorem zit (a:Array (Nat × Value)):Instr.buildSlice 22 1 a=EH a:=rfl
theorem zf0 (w:World):(EH #[(0,.agg #[.int .i64 0,.int .i64 1,.string ⟨#[65]⟩,.int .i64 5])]).run Tryz.prog w = .ok (.slice (some ⟨w.heap.size,0,none⟩) 1 1) (w.alloc (.cells sxC 50)):=by kernel_rfl
theorem zdl (a v:Option Addr) (n c m d:Nat) (w:World):(o8 #[(0,.slice a n c),(1,.agg #[.slice v m d,.slice none 0 0])]).run Tryz.prog w = .ok (.agg #[.slice a n c,.slice v m d,.slice none 0 0,.slice none 0 0]) w:=by kernel_rfl
theorem iL (w:World) (m:Fc) (g:Nat) (hg:w.heap.size=g):∃ w':World,(nR (.pointer (some ⟨g,0,none⟩)) (.agg (FaC (mkF m)))).run Tryz.prog (w.alloc (.cells (FaC (mkF fz0)) 31)) = .ok () w'/\aE w' g (mkF m)/\Below w.heap.size w w'/\w'.heap.size=w.heap.size+1:=by
 subst hg;exact ⟨_,x9 (qr w _),(qr w _).setRow,zh (ze w _) (Nat.le_refl _),by simp [World.setRow]⟩
attribute [local go_sem ↓] zq zp zL zK qX zit zch yw zci
attribute [local go_sem] zi zj zk zm zv zdl zf0 bN bO kC
end
section
open Go.ChangeShapes Go.WideShapes Go.ChangeAt Go.RowKit Go.Joins

theorem own:ownKnob Tryz.prog.godebug=none:=by kernel_rfl
theorem tB:laidOutB Tryz.prog=true:=by kernel_rfl
theorem rF:Tryz.prog.cellsOf 104=3:=by kernel_rfl
theorem rH:Tryz.prog.cellsOf 3=1:=by kernel_rfl
theorem lV:Tryz.prog.cellsOf 26=2:=by kernel_rfl
theorem Bx:Tryz.prog.cellsOf 23=1:=by kernel_rfl
theorem Bp:Tryz.prog.cellsOf 24=1:=by kernel_rfl
theorem wv {H:Type} (d:DataW H):1 <= Rows.uptoBulk d:=by
 cases d with
 | lit l=>cases l <;> simp only [Rows.uptoBulk] <;> omega
 | _=>simp only [Rows.uptoBulk] <;> omega
theorem ww {H:Type}:∀ (l:List (DataW H)),l.length <= Rows.uptoBulkAll l
 | []=>by simp
 | d :: l=>by have:=ww l;have:=wv d;simp only [Rows.uptoBulkAll,List.length_cons];omega
theorem lF {α : Type} {l:List α} (h:l.length=2):∃ a b,l=[a,b]:=by
 match l,h with
 | [a,b],_=>exact ⟨a,b,rfl⟩
theorem iW {α : Type} {l:List α} (h:l.length=3):∃ a b c,l=[a,b,c]:=by
 match l,h with
 | [a,b,c],_=>exact ⟨a,b,c,rfl⟩
theorem zet {H:Type} {enc:TypeId × Value -> H} {w:World} {base:Nat} {spare:Nat -> Bool} {held:Bool} {fuel:Nat} {cs:List Value} {x:DataW H × List MemPlace}
  (h:DataW.trod enc Tryz.prog w base spare held fuel 104 cs=some x):∃ e:Sn,cs=(SC e).toList:=by
 obtain ⟨xs,m,_,hx,fC,ns,hf⟩:=DataW.trod_struct Tryz.underlying104 h;obtain ⟨v0,v1,v2,rfl⟩:=iW (fC.trans rF);obtain ⟨y0,y1,y2,rfl⟩:=iW ns;have t0:=hf 0 _ rfl;have t1:=hf 1 _ rfl;have t2:=hf 2 _ rfl;simp [rH] at t0 t1 t2;obtain ⟨r,e0,-,_⟩:=DataW.trod_int Tryz.underlying3 t0;obtain ⟨n,e1,-,_⟩:=DataW.trod_int Tryz.underlying3 t1;obtain ⟨m',e2,-,_⟩:=DataW.trod_int Tryz.underlying3 t2;simp only [List.cons.injEq,and_true] at e0 e1 e2;subst e0 e1 e2;exact ⟨⟨r,n,m'⟩,rfl⟩
theorem EW {H:Type} {enc:TypeId × Value -> H} {W:World} {fuel:Nat} {v:Value} {x:DataW H × List MemPlace}
  (h:DataW.trod enc Tryz.prog W 0 (fun _=>true) true fuel 23 [v]=some x) (hw:Rows.uptoBulk x.1 <= 1048576):∃ (ao:Option Addr) (n cap:Nat) (Z:List Int),v = .slice ao n cap/\V.Src W ao n cap Z/\n <= 1048576:=by
 rcases DataW.trod_slice Tryz.underlying23 h with h0 | ⟨a,len,cap,elems,rest,n,_,gM,hx,hb,hl,hm,cF,hel,su,hns⟩
 ·have e:v = .slice none 0 0:=by simpa using h0.1
  exact ⟨none,0,0,[],e,⟨rfl,fun _=>⟨rfl,rfl⟩,fun ad h=>(by cases h)⟩,Nat.zero_le _⟩
 ·subst hx
  have e:v = .slice (some a) len cap:=by simpa using gM
  simp only [Rows.uptoBulk] at hw;have h1:=ww (elems.map (·.1));simp only [List.length_map] at h1
  have key:∀ i,i < len -> ∃ z:Int,W.cell? (a.add i)=some (.int .i64 z):=by
   intro i hi;have he:=hel i hi;obtain ⟨y,hy⟩:∃ y,elems[i]? = some y:=⟨_,List.getElem?_eq_getElem (by omega)⟩;rw [hy,rH,Option.bind_eq_some_iff] at he;obtain ⟨cs',gM,p9⟩:=he;obtain ⟨NI,-,mT⟩:=World.cells?_some gM;obtain ⟨z,rfl,-,_⟩:=DataW.trod_int Tryz.underlying3 p9;have g0:=mT 0 (by omega);rw [add_zero,Nat.mul_one] at g0;exact ⟨z,g0⟩
  refine ⟨some a,len,cap,(List.range len).map fun i=>if h:i < len then Classical.choose (key i h) else 0,e,⟨by simp,fun h=>(by cases h),fun ad h t ht=>?_⟩,by omega⟩;obtain rfl:=Option.some.inj h
  have:((List.range len).map fun i=>if h:i < len then Classical.choose (key i h) else 0).getD t 0=Classical.choose (key t ht):=by simp [List.getD,ht]
  rw [this];exact Classical.choose_spec (key t ht)
theorem ED {H:Type} {enc:TypeId × Value -> H} {W:World} {fuel:Nat} {v:Value} {x:DataW H × List MemPlace}
  (h:DataW.trod enc Tryz.prog W 0 (fun _=>true) true fuel 24 [v]=some x) (hw:Rows.uptoBulk x.1 <= 1048576):∃ (ao:Option Addr) (n cap:Nat) (L:List Sn),v = .slice ao n cap/\cN W ao n cap L/\n <= 1048576:=by
 rcases DataW.trod_slice Tryz.underlying24 h with h0 | ⟨a,len,cap,elems,rest,n,_,gM,hx,hb,hl,hm,cF,hel,su,hns⟩
 ·have e:v = .slice none 0 0:=by simpa using h0.1
  exact ⟨none,0,0,[],e,cN.empty _,Nat.zero_le _⟩
 ·subst hx
  have e:v = .slice (some a) len cap:=by simpa using gM
  simp only [Rows.uptoBulk] at hw;have h1:=ww (elems.map (·.1));simp only [List.length_map] at h1
  have key:∀ i,i < len -> ∃ e:Sn,iP W (a.add (i * 3)) e:=by
   intro i hi;have he:=hel i hi;obtain ⟨y,hy⟩:∃ y,elems[i]? = some y:=⟨_,List.getElem?_eq_getElem (by omega)⟩;rw [hy,rF,Option.bind_eq_some_iff] at he;obtain ⟨cs',gM,p9⟩:=he;obtain ⟨_,-,mT⟩:=World.cells?_some gM;obtain ⟨e,rfl⟩:=zet p9;have g0:=mT 0 (by omega);rw [add_zero] at g0;exact ⟨e,⟨g0,mT 1 (by omega),mT 2 (by omega)⟩⟩
  refine ⟨some a,len,cap,(List.range len).map fun i=>if h:i < len then Classical.choose (key i h) else sn0,e,⟨by simp,fun h=>(by cases h),fun ad h t ht=>?_,by omega,hl⟩,by omega⟩;obtain rfl:=Option.some.inj h
  have:((List.range len).map fun i=>if h:i < len then Classical.choose (key i h) else sn0).getD t sn0=Classical.choose (key t ht):=by simp [List.getD,ht]
  rw [this];exact Classical.choose_spec (key t ht)
theorem rt {H:Type} {enc:TypeId × Value -> H} {W:World} {fuel:Nat} {cs:List Value} {x:DataW H × List MemPlace}
  (h:DataW.trod enc Tryz.prog W 0 (fun _=>true) true fuel 26 cs=some x) (hw:Rows.uptoBulk x.1 <= 1048576):∃ p:Pv,cs=[.slice p.vo p.vn p.vc,.slice p.co p.cn p.cc]/\am W p/\p.P.cloud.length <= 1048576:=by
 obtain ⟨xs,m,_,hx,fC,ns,hf⟩:=DataW.trod_struct Tryz.underlying26 h;obtain ⟨v0,v1,rfl⟩:=lF (fC.trans lV);obtain ⟨y0,y1,rfl⟩:=lF ns;have t0:=hf 0 _ rfl;have t1:=hf 1 _ rfl;simp [Bx,Bp] at t0 t1;subst hx;simp only [Rows.uptoBulk,List.map_cons,List.map_nil,Rows.uptoBulkAll] at hw;obtain ⟨a0,l0,c0,Z,rfl,S0,g0⟩:=EW t0 (by omega);obtain ⟨a1,l1,c1,L,rfl,S1,g1⟩:=ED t1 (by omega);exact ⟨⟨a0,l0,c0,a1,l1,c1,⟨Z,L⟩⟩,rfl,⟨S0,S1,by show l0 <= _;omega⟩,by show L.length <= _;rw [S1.len];exact g1⟩
end
end Go.Proofs.YtjffpimfngdggaaGreat
namespace Go.Proofs.YtjffpimfngdggaaGreat.K
open Go.ChangeShapes Go.WideShapes Go.ChangeAt Go.RowKit Go.Joins

theorem own:ownKnob Tryz.prog.godebug=none:=by kernel_rfl
theorem ow:Tryz.prog.cellsOf 50=4:=by kernel_rfl
theorem tF:Tryz.prog.cellsOf 48=2:=by kernel_rfl
theorem rV:Tryz.prog.cellsOf 3=1:=by kernel_rfl
theorem Bt:Tryz.prog.cellsOf 9=1:=by kernel_rfl
theorem lF {α : Type} {l:List α} (h:l.length=2):∃ a b,l=[a,b]:=by
 match l,h with
 | [a,b],_=>exact ⟨a,b,rfl⟩
theorem iW {α : Type} {l:List α} (h:l.length=3):∃ a b c,l=[a,b,c]:=by
 match l,h with
 | [a,b,c],_=>exact ⟨a,b,c,rfl⟩
theorem rC {α : Type} {l:List α} (h:l.length=4):∃ a b c d,l=[a,b,c,d]:=by
 match l,h with
 | [a,b,c,d],_=>exact ⟨a,b,c,d,rfl⟩
theorem zdt {H:Type} {enc:TypeId × Value -> H} {w:World} {base:Nat} {spare:Nat -> Bool} {held:Bool} {fuel:Nat} {cs:List Value} {x:DataW H × List MemPlace}
  (h:DataW.trod enc Tryz.prog w base spare held fuel 50 cs=some x):∃ e:En,cs=(EC e).toList/\e.sku.size <= maxLen:=by
 obtain ⟨xs,m,_,hx,fC,ns,hf⟩:=DataW.trod_struct Tryz.underlying50 h;obtain ⟨v0,v1,v2,v3,rfl⟩:=rC (fC.trans ow);obtain ⟨y0,y1,y2,rfl⟩:=iW ns;have t0:=hf 0 _ rfl;have t1:=hf 1 _ rfl;have t2:=hf 2 _ rfl;simp [rV,Bt,tF] at t0 t1 t2;obtain ⟨xs',m',_,NL,Ng,Ig,JK⟩:=DataW.trod_struct Tryz.underlying48 t0;obtain ⟨z0,z1,rfl⟩:=lF Ig;have s0:=JK 0 _ rfl;have s1:=JK 1 _ rfl;simp [rV] at s0 s1;obtain ⟨r,e0,-,_⟩:=DataW.trod_int Tryz.underlying3 s0;obtain ⟨n,e1,-,_⟩:=DataW.trod_int Tryz.underlying3 s1;obtain ⟨s,e2,-,w2⟩:=DataW.trod_string Tryz.underlying9 t1;obtain ⟨q,e3,-,_⟩:=DataW.trod_int Tryz.underlying3 t2;simp only [List.cons.injEq,and_true] at e0 e1 e2 e3;subst e0 e1 e2 e3;exact ⟨⟨r,n,s,q⟩,rfl,w2⟩
end Go.Proofs.YtjffpimfngdggaaGreat.K
namespace Go.Proofs.YtjffpimfngdggaaGreat
section
open Go.ChangeShapes Go.WideShapes Go.ChangeAt Go.RowKit Go.Joins

def EQ (L:List Rc):Prop:=L.length <= 209715/\∀ r∈L,r.p.P.cloud.length <= 1048576
structure FcU (w:World) (f:Fc):Prop where
 ok:aV w f
 row:FcR f
 sm:EQ f.rs
 an:f.an <= 1048576
theorem FcU.rn {w:World} {f:Fc} (h:FcU w f):f.rn <= 209715:=by rw [<- h.ok.rs.len];exact h.sm.1
theorem oJ:Tryz.prog.cellsOf 78=3:=by kernel_rfl
theorem tM:Tryz.prog.cellsOf 9=1:=by kernel_rfl
theorem ou:Tryz.prog.cellsOf 22=1:=by kernel_rfl
theorem oE:Tryz.prog.cellsOf 27=1:=by kernel_rfl
theorem oA:Tryz.prog.cellsOf 29=4:=by kernel_rfl
theorem zcg {H:Type}:∀ (l:List (DataW H)) (d:DataW H),d∈l -> Rows.uptoBulk d <= Rows.uptoBulkAll l
 | e :: l,d,h=>by
  simp only [Rows.uptoBulkAll];rcases List.mem_cons.1 h with rfl | h
  ·omega
  ·have:=zcg l d h;omega
theorem zbv {H:Type}:∀ (l:List (DataW H)),(∀ d∈l,5 <= Rows.uptoBulk d) -> 5 * l.length <= Rows.uptoBulkAll l
 | [],_=>by simp
 | d :: l,h=>by
  have h1:=zbv l (fun e he=>h e (List.mem_cons_of_mem _ he));have h2:=h d List.mem_cons_self;simp only [Rows.uptoBulkAll,List.length_cons];omega
theorem rx {H:Type} {enc:TypeId × Value -> H} {W:World} {fuel:Nat} {v:Value} {x:DataW H × List MemPlace}
  (h:DataW.trod enc Tryz.prog W 0 (fun _=>true) true fuel 22 [v]=some x) (hw:Rows.uptoBulk x.1 <= 1048576):∃ (ao:Option Addr) (n cap:Nat) (L:List K.En),v = .slice ao n cap/\K.aD W ao n cap L/\n <= 1048576:=by
 rcases DataW.trod_slice Tryz.underlying22 h with h0 | ⟨a,len,cap,elems,rest,n,_,gM,hx,hb,hl,hm,cF,hel,su,hns⟩
 ·have e:v = .slice none 0 0:=by simpa using h0.1
  exact ⟨none,0,0,[],e,⟨rfl,fun _=>⟨rfl,rfl⟩,fun ad h=>(by cases h),fun e he=>(by cases he),Nat.zero_le _⟩,Nat.zero_le _⟩
 ·subst hx
  have e:v = .slice (some a) len cap:=by simpa using gM
  simp only [Rows.uptoBulk] at hw;have h1:=ww (elems.map (·.1));simp only [List.length_map] at h1
  have key:∀ i,i < len -> ∃ e:K.En,K.gR W (a.add (i * 4)) e/\e.sku.size <= maxLen:=by
   intro i hi;have he:=hel i hi;obtain ⟨y,hy⟩:∃ y,elems[i]? = some y:=⟨_,List.getElem?_eq_getElem (by omega)⟩;rw [hy,K.ow,Option.bind_eq_some_iff] at he;obtain ⟨cs',gM,p9⟩:=he;obtain ⟨_,-,mT⟩:=World.cells?_some gM;obtain ⟨e,rfl,hs⟩:=K.zdt p9;have g0:=mT 0 (by omega);rw [add_zero] at g0;exact ⟨e,⟨g0,mT 1 (by omega),mT 2 (by omega),mT 3 (by omega)⟩,hs⟩
  refine ⟨some a,len,cap,(List.range len).map fun i=>if h:i < len then Classical.choose (key i h) else K.en0,e,⟨by simp,fun h=>(by cases h),fun ad h t ht=>?_,fun e he=>?_,by omega⟩,by omega⟩
  ·obtain rfl:=Option.some.inj h
   have:((List.range len).map fun i=>if h:i < len then Classical.choose (key i h) else K.en0).getD t K.en0=Classical.choose (key t ht):=by simp [List.getD,ht]
   rw [this];exact (Classical.choose_spec (key t ht)).1
  ·simp only [List.mem_map,List.mem_range] at he;obtain ⟨i,hi,rfl⟩:=he;rw [dif_pos hi];exact (Classical.choose_spec (key i hi)).2
theorem zep {H:Type} {enc:TypeId × Value -> H} {W:World} {fuel:Nat} {cs:List Value} {x:DataW H × List MemPlace}
  (h:DataW.trod enc Tryz.prog W 0 (fun _=>true) true fuel 26 cs=some x):3 <= Rows.uptoBulk x.1:=by
 obtain ⟨xs,m,_,hx,fC,ns,hf⟩:=DataW.trod_struct Tryz.underlying26 h;obtain ⟨y0,y1,rfl⟩:=lF ns;subst hx;have h0:=wv y0.1;have h1:=wv y1.1;simp only [Rows.uptoBulk,List.map_cons,List.map_nil,Rows.uptoBulkAll];omega
theorem za7 {H:Type} {enc:TypeId × Value -> H} {W:World} {fuel:Nat} {cs:List Value} {x:DataW H × List MemPlace}
  (h:DataW.trod enc Tryz.prog W 0 (fun _=>true) true fuel 78 cs=some x):5 <= Rows.uptoBulk x.1/\(Rows.uptoBulk x.1 <= 1048576 -> ∃ r:Rc,cs=(ReC (mkR r)).toList/\cS W r/\r.p.P.cloud.length <= 1048576):=by
 obtain ⟨xs,m,_,hx,fC,ns,hf⟩:=DataW.trod_struct Tryz.underlying78 h;obtain ⟨v0,v1,v2,rfl⟩:=iW (fC.trans oJ);obtain ⟨y0,y1,rfl⟩:=lF ns;have t0:=hf 0 _ rfl;have t1:=hf 1 _ rfl;simp [lV,tM] at t0 t1;subst hx;simp only [Rows.uptoBulk,List.map_cons,List.map_nil,Rows.uptoBulkAll];have b0:=wv y0.1;have b1:=zep t1;refine ⟨by omega,fun hw=>?_⟩;obtain ⟨s,e0,-,hs⟩:=DataW.trod_string Tryz.underlying9 t0;obtain ⟨p,ep,Sp,hl⟩:=rt t1 (by omega);simp only [List.cons.injEq,and_true] at e0 ep;obtain ⟨rfl,rfl⟩:=ep;subst e0;exact ⟨⟨s,p⟩,rfl,⟨Sp,hs⟩,hl⟩
theorem rK {H:Type} {enc:TypeId × Value -> H} {W:World} {fuel:Nat} {v:Value} {x:DataW H × List MemPlace}
  (h:DataW.trod enc Tryz.prog W 0 (fun _=>true) true fuel 27 [v]=some x) (hw:Rows.uptoBulk x.1 <= 1048576):∃ (ao:Option Addr) (n cap:Nat) (L:List Rc),v = .slice ao n cap/\RcT W ao n cap L/\EQ L:=by
 rcases DataW.trod_slice Tryz.underlying27 h with h0 | ⟨a,len,cap,elems,rest,n,_,gM,hx,hb,hl,hm,cF,hel,su,hns⟩
 ·have e:v = .slice none 0 0:=by simpa using h0.1
  exact ⟨none,0,0,[],e,⟨RcS.empty _,Nat.le_refl _,fun _=>rfl⟩,Nat.zero_le _,fun r hr=>by cases hr⟩
 ·subst hx
  have e:v = .slice (some a) len cap:=by simpa using gM
  simp only [Rows.uptoBulk] at hw
  have op:∀ i (hi:i < elems.length),i < len/\∃ cs',(5 <= Rows.uptoBulk elems[i].1/\(Rows.uptoBulk elems[i].1 <= 1048576 -> ∃ r:Rc,cs'=(ReC (mkR r)).toList/\cS W r/\r.p.P.cloud.length <= 1048576))/\(∀ j,j < 3 -> W.cell? ((a.add (i * 3)).add j)=cs'[j]?):=by
   intro i hi
   have i9:i < len:=by omega
   have he:=hel i i9;rw [List.getElem?_eq_getElem hi,oJ,Option.bind_eq_some_iff] at he;obtain ⟨cs',gM,p9⟩:=he;obtain ⟨_,-,mT⟩:=World.cells?_some gM;exact ⟨i9,cs',za7 p9,fun j hj=>mT j hj⟩
  have h5:=zbv (elems.map (·.1)) (fun d hd=>by
   obtain ⟨y,hy,rfl⟩:=List.mem_map.1 hd;obtain ⟨i,hi,rfl⟩:=List.getElem_of_mem hy;obtain ⟨-,_,h,-⟩:=op i hi
   exact h.1)
  simp only [List.length_map] at h5
  have key:∀ i,i < len -> ∃ r:Rc,iC W (a.add (i * 3)) (mkR r)/\cS W r/\r.p.P.cloud.length <= 1048576:=by
   intro i hi
   have i9:i < elems.length:=by omega
   obtain ⟨-,cs',h,mT⟩:=op i i9;obtain ⟨r,rfl,hr,JL⟩:=h.2 (by have:=zcg (elems.map (·.1)) elems[i].1 (List.mem_map_of_mem (f:=(·.1)) (List.getElem_mem i9));omega);have g0:=mT 0 (by omega);rw [add_zero] at g0;exact ⟨r,⟨g0,mT 1 (by omega),mT 2 (by omega)⟩,hr,JL⟩
  refine ⟨some a,len,cap,(List.range len).map fun i=>if h:i < len then Classical.choose (key i h) else rc0,e,⟨⟨by simp,(fun h=>by cases h),fun ad h t ht=>?_,fun r hr=>?_,by omega⟩,hl,fun h=>by cases h⟩,by simp;omega,fun r hr=>?_⟩
  ·obtain rfl:=Option.some.inj h
   have:((List.range len).map fun i=>if h:i < len then Classical.choose (key i h) else rc0).getD t rc0=Classical.choose (key t ht):=by simp [List.getD,ht]
   rw [this];exact (Classical.choose_spec (key t ht)).1
  ·simp only [List.mem_map,List.mem_range] at hr;obtain ⟨i,hi,rfl⟩:=hr;rw [dif_pos hi];exact (Classical.choose_spec (key i hi)).2.1
  ·simp only [List.mem_map,List.mem_range] at hr;obtain ⟨i,hi,rfl⟩:=hr;rw [dif_pos hi];exact (Classical.choose_spec (key i hi)).2.2
theorem kl {H:Type} {enc:TypeId × Value -> H} {W:World} {fuel:Nat} {cs:List Value} {x:DataW H × List MemPlace}
  (h:DataW.trod enc Tryz.prog W 0 (fun _=>true) true fuel 29 cs=some x) (hw:Rows.uptoBulk x.1 <= 1048576):∃ f:Fc,cs=(FaC (mkF f)).toList/\FcU W f:=by
 obtain ⟨xs,m,_,hx,fC,ns,hf⟩:=DataW.trod_struct Tryz.underlying29 h;obtain ⟨v0,v1,v2,v3,rfl⟩:=K.rC (fC.trans oA);obtain ⟨y0,y1,y2,rfl⟩:=iW ns;have t0:=hf 0 _ rfl;have t1:=hf 1 _ rfl;have t2:=hf 2 _ rfl;simp [lV,ou,oE] at t0 t1 t2;subst hx;simp only [Rows.uptoBulk,List.map_cons,List.map_nil,Rows.uptoBulkAll] at hw;obtain ⟨ro,rn,rc,R,rfl,Sr,r1⟩:=rK t2 (by omega);obtain ⟨ao,an,ac,A,rfl,Sa,a1⟩:=rx t0 (by omega);obtain ⟨p,ep,Sp,-⟩:=rt t1 (by omega);simp only [List.cons.injEq,and_true] at ep;obtain ⟨rfl,rfl⟩:=ep;exact ⟨⟨ao,an,ac,A,p,ro,rn,rc,R⟩,rfl,⟨Sa,Sp,Sr.src⟩,⟨Sr.room,Sr.nil⟩,r1,a1⟩
end
section
open Go.ChangeShapes Go.WideShapes Go.ChangeAt Go.RowKit Go.Joins
theorem oH:Tryz.prog.cellsOf 31=4:=by kernel_rfl
theorem zds {H:Type} {enc:TypeId × Value -> H} {W:World} {fuel:Nat} {cs:List Value} {x:DataW H × List MemPlace}
  (h:DataW.trod enc Tryz.prog W 0 (fun _=>true) true fuel 31 cs=some x) (hw:Rows.uptoBulk x.1 <= 1048576):∃ f:Fc,cs=(FaC (mkF f)).toList/\FcU W f:=by
 obtain ⟨xs,m,_,hx,fC,ns,hf⟩:=DataW.trod_struct Tryz.underlying31 h;obtain ⟨v0,v1,v2,v3,rfl⟩:=K.rC (fC.trans oH);obtain ⟨y0,y1,y2,rfl⟩:=iW ns;have t0:=hf 0 _ rfl;have t1:=hf 1 _ rfl;have t2:=hf 2 _ rfl;simp [lV,ou,oE] at t0 t1 t2;subst hx;simp only [Rows.uptoBulk,List.map_cons,List.map_nil,Rows.uptoBulkAll] at hw;obtain ⟨ro,rn,rc,R,rfl,Sr,r1⟩:=rK t2 (by omega);obtain ⟨ao,an,ac,A,rfl,Sa,a1⟩:=rx t0 (by omega);obtain ⟨p,ep,Sp,-⟩:=rt t1 (by omega);simp only [List.cons.injEq,and_true] at ep;obtain ⟨rfl,rfl⟩:=ep;exact ⟨⟨ao,an,ac,A,p,ro,rn,rc,R⟩,rfl,⟨Sa,Sp,Sr.src⟩,⟨Sr.room,Sr.nil⟩,r1,a1⟩
theorem FcU.b {w:World} {s:Fc} (h:FcU w s):SwB 1 w s:=⟨h.ok,h.row,by have:=h.rn;omega,by have:=h.an;omega,h.sm.2⟩
end
section
open Go.RowKit
attribute [local go_sem ↓] zL zK
attribute [local go_sem] zk zm zv xk xK
end
section
open Go.RowKit
theorem ziN {f:Fc} (hr:f.rs.length=f.rn) (ff:av f):(∀ r∈f.rs,cj r)/\Srt ck (plR f.rs):=xS.1 (by rw [hr];exact ff.2.2)
theorem zd6 {w:World} {f s:Fc} (hS:aV w s) (hl:f.es.length=f.an) (hr:f.rs.length=f.rn) (ff:av f) (h:StD f s):aK s:=by
 obtain ⟨h1,h2,h3⟩:=h;have hc:=(jl hl).2 ff.1;have hs:=ziN hr ff
 have sub:∀ y∈plR s.rs,y∈plR f.rs/\¬ wiP y.2 s.p.P:=fun y hy=>by
  rw [h3.2,List.mem_filter] at hy;refine ⟨hy.1,fun k=>?_⟩;have:=hy.2;rw [br k] at this
  cases this
 have mem:∀ e∈s.es,e∈f.es/\inB f.p.P e=false/\cW f.rs e=true:=fun e he=>by
  rw [h1,List.mem_filter] at he;have h4:=he.2;unfold lvB at h4;rw [Bool.and_eq_true,Bool.not_eq_true'] at h4;exact ⟨he.1,h4.1,h4.2⟩
 refine (zbk hS).2 ⟨?_,h2.1,⟨fun y hy=>?_,?_⟩,fun e he=>?_,fun y hy=>(sub y hy).2,fun e he r hr=>?_⟩
 ·show K.chk s.es=0
  rw [h1];exact y6 hc _
 ·obtain ⟨r,hr,rfl⟩:=List.mem_map.1 (sub y hy).1;exact hs.1 r hr
 ·show Srt ck (plR s.rs)
  rw [h3.2];exact List.Pairwise.filter _ hs.2
 ·exact (zbj h2 e).2 (.inl ⟨zbq (xZ hc e (mem e he).1),e,(mem e he).1,rfl⟩)
 ·exact (zal _ _).1 (mem e he).2.2 r (sub r hr).1
theorem I4 {N:Nat} {w w':World} {f s:Fc} (hB:SwB N w f) (hS:aV w' s) (hr:FcR s) (h:StD f s):SwB N w' s:=by
 refine ⟨hS,hr,?_,?_,zhk h.2.2 hB.cl⟩
 ·have h1:=congrArg List.length h.2.2.2;have h2:=List.length_filter_le (waitB s.p.P) (plR f.rs);rw [jy] at h1;rw [jy] at h2;have h3:=hS.rs.len;have h4:=hB.ok.rs.len;have h5:=hB.rn;omega
 ·have h1:s.es.length <= f.es.length:=by rw [h.1];exact List.length_filter_le _ _
  have h3:=hS.es.1;have h4:=hB.ok.es.1;have h5:=hB.an;omega
attribute [local go_sem ↓] zB zz zL zK
attribute [local go_sem] zk zm zv xk xK
end
section
open Go.RowKit
def CoR (f s:Fc) (er:Int):Prop:=(¬ av f/\er=1/\s=fz0)∨(av f/\er=0/\StD f s)
def CoE (N:Nat) (w w':World) (x:Ending) (f:Fc):Prop:=∃ s er,x = .returned (.tuple #[FaV (mkF s),.int .i64 er])/\SwB N w' s/\Below w.heap.size w w'/\CoR f s er
theorem Ew (w:World) (f:Fc):∃ wk,(w.alloc (.cells (FaC (mkF f)) 29)).alloc (.cells (FaC (mkF fz0)) 31)=wk/\Hid (aF wk w.heap.size (mkF f))/\Hid (aE wk (w.heap.size+1) (mkF fz0))/\Hid (Below w.heap.size w wk):=by
 have b1:=ze w (.cells (FaC (mkF f)) 29);have b2:=ze (w.alloc (.cells (FaC (mkF f)) 29)) (.cells (FaC (mkF fz0)) 31);have X2:=qr (w.alloc (.cells (FaC (mkF f)) 29)) (mkF fz0);rw [World.size_alloc] at X2;exact ⟨_,rfl,(qi w (mkF f)).below b2,X2,b1.trans (b2.mono b1.size)⟩
attribute [local go_sem ↓] zq zp zB zz zL zK qX
attribute [local go_sem] zi zj zE zk zm zv qD xH
theorem kY (N:Nat) (hN:N <= 4) (f:Fc) (w:World) (hS:SwB N w f):Calls Tryz.prog 7 #[FaV (mkF f)] w fun e w'=>CoE N w w' e f:=by
 obtain ⟨wk,aY,HX,HZ,aq⟩:=Ew w f;obtain ⟨G,dF⟩:∃ G,w.heap.size=G:=⟨_,rfl⟩;rw [dF] at HX HZ;have fU:Hid (w.heap.size=G):=dF;have HS:=hide (hS.below aq.out);have HU:=hide ((hS.below aq.out).u hN);clear hS;have l0:=qy HX.out;go_enter Tryz.func7,Tryz.ntmps7;go_wp2_with fail;clear aY dF l0;refine (wI f _ HU.out.ok).mono ?_;rintro e v3 ⟨p,er,rfl,Sp,-,b3,hp⟩;obtain ⟨g4,Cw⟩:∃ g,v3.heap.size=g:=⟨_,rfl⟩;obtain ⟨w3,a8,X3,B3,-⟩:=it v3 p g4 Cw;have b33:=b3.trans (B3.mono b3.size);have aB:=hide b33;have DF:=hide X3;have mp:=hide (Sp.below B3);have HP:=hide (bU hp);have A3:=HZ.out.below b33;clear Sp b3 hp X3 B3 b33;rcases HP.out with ⟨h1,rfl,-⟩ | ⟨h1,rfl,h2⟩
 ·have st:=x9 (m':=mkF fz0) A3;have dW:Hid (aE (w3.setRow (G+1) (FaC (mkF fz0))) (G+1) (mkF fz0)):=A3.setRow;have HE:Hid (CoE N w (w3.setRow (G+1) (FaC (mkF fz0))) (.returned (.tuple #[FaV (mkF fz0),.int .i64 1])) f):=⟨fz0,1,rfl,zia N _,zh (aq.out.trans (aB.out.mono aq.out.size)) (by rw [fU.out];omega),.inl ⟨h1,rfl,rfl⟩⟩;clear h1 A3 HP;go_wp2_with fail;clear st a8 Cw;refine bodyPost_ret (iY rfl rfl rfl dW.out) rfl ?_;exact HE.out
 have ms:=hide h1;have HH:=hide h2;have tu:=hide A3;have l0:=qy (HX.out.below aB.out);clear h1 h2 A3 HP;go_wp2_with fail;clear l0 a8 Cw;refine (zaL f _ (HU.out.ok.below aB.out) HU.out.wt HU.out.nm).mono ?_;rintro e w5 hL;obtain ⟨lo,ln,lc,rfl,SL,b5,-⟩:K.dh w3 w5 e (dQ f) 0:=hL.elim (fun h=>by have:=h.2;rwa [zhw] at this) fun h=>absurd ms.out h.1;have dO:=wTr aB b5;have uE:=hide SL;have DR:=hide (DF.out.below b5);have Ej:=hide (mp.out.below b5);have c3:=(HX.out.below dO.out).cs.2
 have lp:=zl DR.out.at
 clear hL SL b5 DF mp;go_wp2_with fail;clear c3 lp;refine (jD f.ro f.rn f.rc f.rs p _ ((HS.out.ok.row HS.out.row).below dO.out) Ej.out (by have:=HU.out.rn;omega)).mono ?_;rintro e w7 (⟨-,-,⟨fo,fn,fc⟩,F,rfl,GF,nF,WF⟩ | ⟨fw,-,-⟩);rotate_left
 ·exact absurd ⟨ms.out.2.2,HH.out.1⟩ fw
 rw [show HsV ⟨fo,fn,fc⟩=Value.slice fo fn fc from rfl];have dH:=wTr dO GF.below;have tb:=hide (DR.out.below GF.below);have A9:=HZ.out.below dH.out;have st:=x9 (m':=mkF ⟨lo,ln,lc,dQ f,p,fo,fn,fc,F⟩) A9;have dW:Hid (aE (w7.setRow (G+1) (FaC (mkF ⟨lo,ln,lc,dQ f,p,fo,fn,fc,F⟩))) (G+1) (mkF ⟨lo,ln,lc,dQ f,p,fo,fn,fc,F⟩)):=A9.setRow;have iH:aV (w7.setRow (G+1) (FaC (mkF ⟨lo,ln,lc,dQ f,p,fo,fn,fc,F⟩))) ⟨lo,ln,lc,dQ f,p,fo,fn,fc,F⟩:=aV.offW (f:=⟨lo,ln,lc,dQ f,p,fo,fn,fc,F⟩) ⟨uE.out.below GF.below,Ej.out.below GF.below,GF.src⟩ A9 _;have CP:StD f ⟨lo,ln,lc,dQ f,p,fo,fn,fc,F⟩:=⟨rfl,HH.out,WF⟩
 have HE:Hid (CoE N w (w7.setRow (G+1) (FaC (mkF ⟨lo,ln,lc,dQ f,p,fo,fn,fc,F⟩))) (.returned (.tuple #[FaV (mkF ⟨lo,ln,lc,dQ f,p,fo,fn,fc,F⟩),.int .i64 0])) f):=
  ⟨⟨lo,ln,lc,dQ f,p,fo,fn,fc,F⟩,0,rfl,I4 HS.out iH ⟨GF.room,GF.nil⟩ CP,zh (aq.out.trans (dH.out.mono aq.out.size)) (by rw [fU.out];omega),.inr ⟨ms.out,rfl,CP⟩⟩
 have st2:(nR (.pointer (some ⟨G+1,0,none⟩)) (.agg (FaC (mkF ⟨lo,ln,lc,[],p,fo,fn,fc,[]⟩)))).run Tryz.prog w7 = .ok () (w7.setRow (G+1) (FaC (mkF ⟨lo,ln,lc,dQ f,p,fo,fn,fc,F⟩))):=st
 have lq:=zl tb.out.at
 clear A9 st iH CP GF nF WF;go_wp2_with fail;clear st2 lq;refine bodyPost_ret (iY rfl rfl rfl dW.out) rfl ?_;exact HE.out
end
section
open Go.RowKit
structure Fp where
 E:K.En -> Prop
 G:K.En -> Prop
 R:Rp -> Prop
def fp (f:Fc):Fp:=⟨fun e=>e∈f.es,fun e=>inB f.p.P e=true,fun q=>q∈plR f.rs⟩
def un (x y:Fp):Fp:=⟨fun e=>x.E e∨y.E e,fun e=>x.G e∨y.G e,fun q=>x.R q∨y.R q⟩
def hr (x:Fp) (e:K.En):Prop:=(okD (aa e)=true/\∃ z,x.E z/\aa z=aa e)∨x.G e
def lv (x:Fp) (e:K.En):Prop:=x.E e/\¬ x.G e/\∀ q,x.R q -> tI q e=false
def wts (x:Fp) (q:Rp):Prop:=x.R q/\¬ ∀ e,inB q.2 e=true -> hr x e
def lvd (x:Fp) (e:K.En):Prop:=∃ z,lv x z/\aa z=aa e
def lk (x y:Fp):Fp:=⟨fun e=>lv y e/\¬ hr x e,fun e=>(hr y e/\¬ lvd y e)/\¬ (hr x e/\¬ lvd x e),wts y⟩
structure Sm (x y:Fp):Prop where
 h:∀ e,hr x e↔hr y e
 l:∀ e,lv x e↔lv y e
 w:∀ q,wts x q↔wts y q
structure Ok (x:Fp):Prop where
 d:∀ e,x.E e -> okD (aa e)=true
 g:∀ a b,aa a=aa b -> x.G a -> x.G b
def Nc (x y:Fp):Prop:=∀ a b,(x.E a∨y.E a) -> (x.E b∨y.E b) -> aa a=aa b -> a=b
end
section
open Go.RowKit
def JfD (f g h:Fc):Prop:=K.Asc h.es/\(∀ e,e∈h.es↔e∈f.es∨e∈g.es)/\af (aw [f.p,g.p]) h.p.P/\iQ f.rs g.rs h.rs
def JfR (f g h:Fc) (er:Int):Prop:=(¬ (av f/\av g)/\er=1/\h=fz0)∨((av f/\av g)/\K.cu (f.es++g.es)/\er=10/\h=fz0)∨((av f/\av g)/\¬ K.cu (f.es++g.es)/\er=0/\JfD f g h)
def JfE (N:Nat) (w w':World) (x:Ending) (f g:Fc):Prop:=∃ h er,x = .returned (.tuple #[FaV (mkF h),.int .i64 er])/\SwB N w' h/\Below w.heap.size w w'/\JfR f g h er
attribute [local go_sem ↓] zB zz zL zK
attribute [local go_sem] zk zm zv xk xK
end
section
open Go.RowKit
end
end Go.Proofs.YtjffpimfngdggaaGreat
