/- TCl TSr TMn TPs SXe SXs ZDg ZCk YDa YDb YDd SXn YDe YDf YDk SXa PVw LView TVf SXt YDh YDp YDg YDq YDr YEa -/
import Derived.Test.YtjffpimfngdggaaGreatTk
import Derived.Test.YtjffpimfngdggaaGreatFs28
import Derived.Test.YtjffpimfngdggaaGreatFs37
import Derived.Test.YtjffpimfngdggaaGreatFs21
import Derived.Test.YtjffpimfngdggaaGreatFs16
import Derived.Test.YtjffpimfngdggaaGreatFs34
import Derived.Deep.CutRange
import Derived.Test.YtjffpimfngdggaaGreatFs36
import Derived.Test.YtjffpimfngdggaaGreatFs09
import Derived.Test.YtjffpimfngdggaaGreatFs13
import Derived.Deep.MidRow
import Derived.Test.YtjffpimfngdggaaGreatFs32
import Derived.Test.YtjffpimfngdggaaGreatFs31
import Derived.Test.YtjffpimfngdggaaGreatFs12
import Derived.Test.YtjffpimfngdggaaGreatFs11
import Derived.Test.YtjffpimfngdggaaGreatFs10
import Derived.Test.YtjffpimfngdggaaGreatFs33
import Derived.Test.YtjffpimfngdggaaGreatFs22
import Derived.Test.YtjffpimfngdggaaGreatFs00
import Derived.ProofKit
import Derived.OpenShut
import Derived.Lib.SmallJoins
import Derived.HandedShaped
import Derived.SizedLaws
import Derived.ChangeMaps5
import Derived.JoinedCond
import Derived.Test.YtjffpimfngdggaaGreatFs15
set_option maxRecDepth 100000
set_option maxHeartbeats 6400000
namespace Go.Proofs.YtjffpimfngdggaaGreat
section
open Go.RowKit
def ClE (e:K.En) (g:Fc):Prop:=∃ y∈g.es,K.sameDot y e=true/\y≠e
def dotE (e:K.En):Rn:=⟨e.rep,e.num⟩
def ClOf (f g:Fc) (d:Rn) (b:Bool):Prop:=(¬ (FormF f/\FormF g)/\d=rn0/\b=false)∨(FormF f/\FormF g/\((b=false/\d=rn0/\∀ i,i < f.an -> ¬ ClE (f.es.getD i K.en0) g)∨(b=true/\∃ i,i < f.an/\ClE (f.es.getD i K.en0) g/\(∀ j,j < i -> ¬ ClE (f.es.getD j K.en0) g)/\d=dotE (f.es.getD i K.en0))))
def ClA (w w':World) (x:Ending) (f g:Fc):Prop:=∃ (d:Rn) (b:Bool),x = .returned (.tuple #[RV d,.bool b])/\ClOf f g d b/\Below w.heap.size w w'
theorem zao {L:List K.En} {k:Nat} (h:k < L.length):L.getD k K.en0∈L:=by
 rw [List.getD_eq_getElem?_getD,List.getElem?_eq_getElem h];exact List.getElem_mem h
theorem zc5 (x y:K.En):K.eqE x y=true↔x=y:=by
 constructor
 ·intro h;unfold K.eqE at h;simp only [Bool.and_eq_true,beq_iff_eq] at h;obtain ⟨⟨⟨h1,h2⟩,h3⟩,h4⟩:=h;have h5:=zak h3
  cases x;cases y;simp_all
 ·rintro rfl;exact K.vh _
attribute [local go_sem ↓] zr zq zD zC qh qg K.zy K.zx
attribute [local go_sem] zi zk zl zp zF zQ zW qp K.zJ K.zu K.zH
def bldDz (a:Array (Nat × Value)):Sem Value:=Instr.build 48 a
theorem zdi (a:Array (Nat × Value)):Instr.build 48 a=bldDz a:=rfl
theorem zaZ (w:World):(bldDz #[]).run Tryz.prog w = .ok (RV rn0) w:=by kernel_rfl
attribute [local go_sem ↓] zdi
attribute [local go_sem] zaZ
end
section
open Go.RowKit
attribute [local go_sem ↓] K.zy K.zx K.qz zr zq qd zZ
attribute [local go_sem] K.zJ K.zu zi zk
def EqF (f g:Fc):Prop:=f.es=g.es/\f.p.P=g.p.P/\plR f.rs=plR g.rs
attribute [local go_sem ↓] zD zC
attribute [local go_sem] zl zp
end
section
open Go.RowKit
structure IsF (h:Fc) (E:K.En -> Prop) (M:Nat -> Int -> Prop) (R:Rp -> Prop):Prop where
 form:FormF h
 len:h.es.length=h.an/\h.rs.length=h.rn
 es:∀ x,x∈h.es↔E x
 p:∀ r,r < 16 -> ∀ n,mem (runsAt h.p.P r) n↔M r n
 rs:∀ y,y∈plR h.rs↔R y
def WellF (f g:Fc):Prop:=FormF f/\FormF g/\∀ e∈f.es,¬ ClE e g
theorem zaV {x y:K.En} (h:K.sameDot x y=true):K.sameDot y x=true:=by
 unfold K.sameDot at h ⊢;simp only [Bool.and_eq_true,beq_iff_eq] at h ⊢;exact ⟨h.1.symm,h.2.symm⟩
theorem WellF.symm {f g:Fc} (h:WellF f g):WellF g f:=⟨h.2.1,h.1,fun e he ⟨y,hy,hd,hne⟩=>h.2.2 y hy ⟨e,he,zaV hd,fun q=>hne q.symm⟩⟩
attribute [local go_sem ↓] zD zC qh qg
attribute [local go_sem] zl zp zF zQ zW
end
section
open Go.RowKit
def hrd (f:Fc) (r:Nat) (n:Int):Prop:=mem (dotsG (f.es.map dotOf) r) n∨mem (runsAt f.p.P r) n
def PsD (f:Fc) (P:Pst) (er:Int):Prop:=(¬ FormF f/\er=1/\P=pv0.P)∨(FormF f/\er=0/\InForm P/\∀ r,r < 16 -> ∀ n,mem (runsAt P r) n↔hrd f r n)
def PsA (w w':World) (e:Ending) (f:Fc):Prop:=∃ (p:Pv) (er:Int),e = .returned (.tuple #[PV p,.int .i64 er])/\PSrc w' p/\PNew w.heap.size p/\Below w.heap.size w w'/\PsD f p.P er
attribute [local go_sem ↓] zr zq zD zC ja
attribute [local go_sem] zi zk zl zp qQ
theorem wQ (f:Fc) (w:World) (hF:FcOk w f):Calls Tryz.prog 26 #[FaV (mkF f)] w fun e w'=>PsA w w' e f:=by
 have b1:=ze w (.cells (FaC (mkF f)) 29);have X1:=zY w (mkF f);obtain ⟨w1,hw1⟩:∃ w1,w.alloc (.cells (FaC (mkF f)) 29)=w1:=⟨_,rfl⟩
 have hs1:w1.heap.size=w.heap.size+1:=by rw [<- hw1];simp
 rw [hw1] at b1 X1;have x2:PBox (w1.alloc (.cells #[.slice none 0 0,.slice none 0 0] 26)) w1.heap.size pv0:=zm w1 pv0;have b2:=ze w1 (.cells #[.slice none 0 0,.slice none 0 0] 26);obtain ⟨w2,hw2⟩:∃ w2,w1.alloc (.cells #[.slice none 0 0,.slice none 0 0] 26)=w2:=⟨_,rfl⟩;rw [hw2] at x2 b2;rw [hs1] at x2;obtain ⟨G,hG0⟩:∃ G,w.heap.size=G:=⟨_,rfl⟩;rw [hG0] at X1 x2 hs1;have HX:=hide (X1.below b2);have HZ:=hide x2;have HBK:=hide (b1.trans (b2.mono b1.size));have HF:=hide (hF.below HBK.out);have HGs:Hid (w.heap.size=G):=hG0;clear hF b1 b2 X1 x2;have lf:=zT HX.out;go_enter Tryz.func26,Tryz.ntmps26;go_wp2_with fail;clear hw1 hw2 hs1 hG0 lf;refine (vz f _ HF.out).mono ?_;rintro e w3 ⟨x,rfl,hx,b3⟩;have HB3:=wTr HBK b3;have HX3:=hide (HX.out.below b3);have HZ3:=hide (HZ.out.below b3);have HF3:=hide (HF.out.below b3)
 clear b3;rcases hx with ⟨rfl,h1⟩ | ⟨rfl,h1⟩;rotate_left
 ·have t6:(stP (.pointer (some ⟨G+1,0,none⟩)) (.agg #[.slice none 0 0,.slice none 0 0])).run Tryz.prog w3 = .ok () (w3.setRow (G+1) (PC pv0)):=qV (p':=pv0) HZ3.out;have HX0:Hid (PBox (w3.setRow (G+1) (PC pv0)) (G+1) pv0):=setRow_heap _ _ _ _ _ _ HZ3.out;have HE:Hid (PsA w (w3.setRow (G+1) (PC pv0)) (.returned (.tuple #[PV pv0,.int .i64 1])) f):=⟨pv0,1,rfl,PSrc.zero _,⟨fun ad h=>(by cases h),fun ad h=>(by cases h)⟩,zh HB3.out (by rw [HGs.out];omega),.inl ⟨h1,rfl,rfl⟩⟩;clear h1;go_wp2_with fail;clear t6;refine bodyPost_ret (res2Pn rfl rfl rfl HX0.out) rfl ?_;exact HE.out
 have HFo:=hide h1;clear h1;obtain ⟨c0,-⟩:=HX3.out.cs;go_wp2_with fail;clear c0;refine (zc7 f.ao f.an f.ac f.es _ HF3.out.es).mono ?_;rintro e w4 ⟨b4,⟨hc,p,rfl,S4,n4,C4⟩ | ⟨hc,-⟩⟩;rotate_left
 ·exact absurd ((vO HF3.out.es.1).2 HFo.out.1) hc
 obtain ⟨g5,hg5⟩:∃ g,w4.heap.size=g:=⟨_,rfl⟩;have b5:=ze w4 (.cells #[.slice none 0 0,.slice none 0 0] 26);have x5:PBox (w4.alloc (.cells #[.slice none 0 0,.slice none 0 0] 26)) w4.heap.size pv0:=zm w4 pv0
 have z5:(w4.alloc (.cells #[.slice none 0 0,.slice none 0 0] 26)).heap.size=w4.heap.size+1:=by simp
 obtain ⟨w5,hw5⟩:∃ w5,w4.alloc (.cells #[.slice none 0 0,.slice none 0 0] 26)=w5:=⟨_,rfl⟩;rw [hw5] at b5 x5 z5;rw [hg5] at x5 z5;have s5:=qV (p':=p) x5;have B6:Below w4.heap.size w4 (w5.setRow g5 (PC p)):=zh b5 (by omega);have X6:PBox (w5.setRow g5 (PC p)) g5 p:=setRow_heap _ _ _ _ _ _ x5;obtain ⟨w6,hw6⟩:∃ w6,w5.setRow g5 (PC p)=w6:=⟨_,rfl⟩;rw [hw6] at s5 B6 X6;have b46:=b4.trans (B6.mono b4.size);have HB6:=wTr HB3 b46;have HX6:=hide (HX3.out.below b46);have HZ6:=hide (HZ3.out.below b46);have HF6:=hide (HF3.out.below b46);have HP6:=hide (S4.below B6);have HQ6:=hide X6;have HC6:=hide C4
 have lp:=zj X6.at
 have lq:=zj HX6.out.past;have hPR:=prow2 w6 p f.p HP6.out HF6.out.p;have b7:=ze w6 (.cells #[.slice p.vo p.vn p.vc,.slice p.co p.cn p.cc,.slice f.p.vo f.p.vn f.p.vc,.slice f.p.co f.p.cn f.p.cc] 26);have lb:=qQ p f.p w6;obtain ⟨g7,hg7⟩:∃ g7,w6.heap.size=g7:=⟨_,rfl⟩;obtain ⟨w7,hw7⟩:∃ w7,w6.alloc (.cells #[.slice p.vo p.vn p.vc,.slice p.co p.cn p.cc,.slice f.p.vo f.p.vn f.p.vc,.slice f.p.co f.p.cn f.p.cc] 26)=w7:=⟨_,rfl⟩;rw [hw7] at hPR b7 lb;rw [hg7] at hPR lb;have HPR:=hide hPR;have HB7:=wTr HB6 b7;have HZ7:=hide (HZ6.out.below b7);clear hPR b7 hc S4 n4 C4 b4 b5 x5 B6 X6 b46 hw6;go_wp2_with fail;clear lp lq lb s5 hw5 hg5 hg7 hw7 z5;refine (xg (some ⟨g7,0,none⟩) 2 2 [p,f.p] _ HPR.out (zcm (zP.1 HC6.out.canon) HFo.out.2.1) (by decide)).mono ?_;rintro e w8 ⟨q,rfl,S8,n8,b8,C8⟩
 have hz:G+1+1 <= w7.heap.size:=by have:=HZ7.out.lt;omega
 obtain ⟨s1,e1,e2,e3,e4⟩:=qt (w:=w) (HZ7.out.below b8) S8 (n8.mono hz) (HB7.out.trans (b8.mono HB7.out.size)) (by rw [HGs.out];omega);have HE1:=hide e1
 have HE:Hid (PsA w (w8.setRow (G+1) (PC q)) (.returned (.tuple #[PV q,.int .i64 0])) f):=⟨q,0,rfl,e2,e3,e4,.inr ⟨HFo.out,rfl,zP.1 C8.canon,fun r hr n=>by
  rw [zO C8 r hr n]
  show mem (runsAt p.P r++(runsAt f.p.P r++[])) n↔_
  rw [List.append_nil,mem_append,zO HC6.out r hr n]
  exact Iff.rfl⟩⟩
 clear S8 n8 b8 C8 e1 e2 e3 e4 hz;go_wp2_with fail;clear s1;refine bodyPost_ret (res2Pn rfl rfl rfl HE1.out) rfl ?_;exact HE.out
end
section
open Go.RowKit
attribute [local go_sem ↓] zr zq zD zC zL zK xd ja
attribute [local go_sem] zi zk zl zp zv qQ xL qB zE
end
section
open Go.RowKit
def LiA (w w':World) (x:Ending) (s:Fc):Prop:=∃ ao n c L er,x = .returned (.tuple #[.slice ao n c,.int .i64 er])/\K.ESrc w' ao n c L/\Below w.heap.size w w'/\((FormS s/\er=0/\L=s.es)∨(¬ FormS s/\er=1/\L=[]))
def PaA (w w':World) (x:Ending) (s:Fc):Prop:=∃ p er,x = .returned (.tuple #[PV p,.int .i64 er])/\PSrc w' p/\Below w.heap.size w w'/\((FormS s/\er=0/\p.P=s.p.P)∨(¬ FormS s/\er=1/\p=pv0))
attribute [local go_sem ↓] zr zq zL zK yC
attribute [local go_sem] zi zk zl zp zeu zE
end
section
open Go.RowKit
variable {w w' : World} {g : Nat}
structure DigV where
 hvo:Option Addr
 hvn:Nat
 hvc:Nat
 hco:Option Addr
 hcn:Nat
 hcc:Nat
 lvo:Option Addr
 lvn:Nat
 lvc:Nat
 lco:Option Addr
 lcn:Nat
 lcc:Nat
def di0:DigV:=⟨none,0,0,none,0,0,none,0,0,none,0,0⟩
def DiC (m:DigV):Array Value:=#[.slice m.hvo m.hvn m.hvc,.slice m.hco m.hcn m.hcc,.slice m.lvo m.lvn m.lvc,.slice m.lco m.lcn m.lcc]
abbrev DiV (m:DigV):Value:=.agg (DiC m)
theorem xQ (m:DigV):(DiC m).size=4:=rfl
theorem xu (m:DigV):(DiV m).cells=DiC m:=by simp [Value.cells]
structure DiAt (w:World) (a:Addr) (m:DigV):Prop where
 c0:w.cell? a=some (.slice m.hvo m.hvn m.hvc)
 c1:w.cell? (a.add 1)=some (.slice m.hco m.hcn m.hcc)
 c2:w.cell? (a.add 2)=some (.slice m.lvo m.lvn m.lvc)
 c3:w.cell? (a.add 3)=some (.slice m.lco m.lcn m.lcc)
end
section
open Go.RowKit
attribute [local go_sem ↓] zr zq
attribute [local go_sem] zi zk xu xQ
variable {w w' w2 W W' : World} {g : Nat}

structure Dg where
 h:Pv
 l:Pv
def mkD (d:Dg):DigV:=⟨d.h.vo,d.h.vn,d.h.vc,d.h.co,d.h.cn,d.h.cc,d.l.vo,d.l.vn,d.l.vc,d.l.co,d.l.cn,d.l.cc⟩
def DgOk (w:World) (d:Dg):Prop:=PSrc w d.h/\PSrc w d.l
def InP (a b:Pst):Prop:=∀ r,r < 16 -> ∀ n,mem (runsAt a r) n -> mem (runsAt b r) n
def FormD (H L:Pst):Prop:=InForm H/\InForm L/\InP L H
def CkD (w w':World) (e:Ending) (P:Prop):Prop:=∃ x,e = .returned (.int .i64 x)/\((x=1/\¬ P)∨(x=0/\P))/\Below w.heap.size w w'
end
section
open Go.RowKit
def dz0:Dg:=⟨pv0,pv0⟩
def liveF (f:Fc):List K.En:=f.es.filter (lvB f.p.P f.rs)
theorem zi6 (f:Fc):liveL f=liveF f:=by
 unfold liveL liveF;rw [List.filter_filter];congr 1
 funext e
 unfold lvB pkB
 cases inB f.p.P e <;> cases freeB f.rs e <;> rfl
def DoF (f:Fc) (d:Dg):Prop:=HeardOf f d.h.P/\CanonOf (dotsG ((liveF f).map dotOf)) d.l.P
def DoS (s:Fc) (d:Dg):Prop:=d.h.P=s.p.P/\CanonOf (dotsG (s.es.map dotOf)) d.l.P
def EqD (a b:Dg):Prop:=a.h.P=b.h.P/\a.l.P=b.l.P
def OfR (P:Prop) (D:Dg -> Prop) (d:Dg) (er:Int):Prop:=(¬ P/\er=1/\d=dz0)∨(P/\er=0/\D d)
def OfE (w w':World) (x:Ending) (P:Prop) (D:Dg -> Prop):Prop:=∃ d er,x = .returned (.tuple #[DiV (mkD d),.int .i64 er])/\DgOk w' d/\Below w.heap.size w w'/\OfR P D d er
theorem bY {f:Fc} {P:Pst} {er:Int} (h:PsD f P er):(¬ FormF f/\er=1/\P=pv0.P)∨(FormF f/\er=0/\HeardOf f P):=by
 rcases h with h | ⟨h1,h2,h3,h4⟩
 ·exact .inl h
 ·exact .inr ⟨h1,h2,h3,h4⟩
end
section
open Go.RowKit
def DgS (w w':World) (e:Ending) (D:Dg -> Prop):Prop:=∃ d,e = .returned (DiV (mkD d))/\DgOk w' d/\Below w.heap.size w w'/\D d
theorem zfM:(#[.slice none 0 0,.slice none 0 0,.slice none 0 0,.slice none 0 0]:Array Value)=DiC (mkD dz0):=rfl
attribute [local go_sem ↓] zr zq zD zC zL zK
attribute [local go_sem] zi zk zE zl zp xu xQ zfM
end
section
open Go.RowKit
def MnD (a b q:Pst):Prop:=∃ C:Nat -> List Rn,(∀ r,r < 16 -> MinusOf (runsAt a r) (runsAt b r) (C r))/\CanonOf C q
theorem MnD.inB {a b q:Pst} (h:MnD a b q) (e:K.En):inB q e=true↔inB a e=true/\¬ inB b e=true:=by
 obtain ⟨C,hC,hq⟩:=h;by_cases h0:0 <= e.rep/\e.rep < 16
 ·rw [jR h0,jR h0,jR h0,zO hq _ (by omega),(hC _ (by omega)).2 e.num]
 ·constructor
  ·intro h;exact absurd (ku h) h0
  ·intro h;exact absurd (ku h.1) h0
theorem MnD.form {a b q:Pst} (h:MnD a b q):InForm q:=by
 obtain ⟨C,-,hq⟩:=h;exact zP.1 hq.canon
def LkD (L:List K.En) (P:Pst) (d:Dg) (N:List K.En) (Q:Pst):Prop:=N=L.filter (pkB d.h.P false)/\InForm Q/\∀ e,inB Q e=true↔(inB P e=true/\¬ ∃ x∈L,dotOf x=dotOf e)/\¬ (inB d.h.P e=true/\¬ inB d.l.P e=true)
def LkG (w w':World) (x:Ending) (L:List K.En) (P:Pst) (d:Dg):Prop:=∃ no nn nc N q,x = .returned (.tuple #[.slice no nn nc,PV q])/\K.ESrc w' no nn nc N/\PSrc w' q/\Below w.heap.size w w'/\LkD L P d N q.P
def LkJ (w W:World) (G gx gy:Nat) (no:Option Addr) (nn nc:Nat) (N:List K.En) (m1 m2:Pv):Prop:=PBox W gx m1/\PBox W gy m2/\PSrc W m1/\PSrc W m2/\PBox W (G+2) pv0/\K.ESrc W no nn nc N/\Below w.heap.size w W
attribute [local go_sem ↓] zr zq
attribute [local go_sem] zi zk zE xu xQ
end
section
open Go.RowKit
attribute [local go_sem ↓] zr zq zL zK xd ja
attribute [local go_sem] zi zk zl zp zv qQ xL qB zE
theorem zdt (N M:Nat) (hNM:N+M <= 4) (a b:Fc) (w:World) (hA:SwB N w a) (hB:SwB M w b):Calls Tryz.prog 75 #[FaV (mkF a),FaV (mkF b)] w fun e w'=>SwJ (N+M) w w' e (SjD a b):=by
 obtain ⟨w1,hw1,HX1,HY1,HB1,z1⟩:=box2J w a b;have b2:=ze w1 (.cells (FaC (mkF fz0)) 31);have X2:=qk w1 (mkF fz0);rw [z1] at X2;obtain ⟨wk,hwk⟩:∃ w2,w1.alloc (.cells (FaC (mkF fz0)) 31)=w2:=⟨_,rfl⟩;rw [hwk] at b2 X2;have HX:=hide (HX1.out.below b2);have HY:=hide (HY1.out.below b2);have HBK:=wTr HB1 b2;obtain ⟨G,hG0⟩:∃ G,w.heap.size=G:=⟨_,rfl⟩;rw [hG0] at HX HY X2 z1;have HZ:=hide X2;have HGs:Hid (w.heap.size=G):=hG0;have HA:=hide (hA.below HBK.out);have HB:=hide (hB.below HBK.out);have HN:=hide hNM;have hrn:a.rn <= N * 209716/\a.an <= N * 1048576:=⟨hA.rn,hA.an⟩;have hqn:b.rn <= M * 209716/\b.an <= M * 1048576:=⟨hB.rn,hB.an⟩
 have HRN:Hid (a.rn+b.rn <= (N+M) * 209716/\a.an+b.an <= (N+M) * 1048576/\a.rn+b.rn <= 838864/\a.an+b.an <= 4194304):=by
  have e1:(N+M) * 209716=N * 209716+M * 209716:=Nat.add_mul _ _ _;have e2:(N+M) * 1048576=N * 1048576+M * 1048576:=Nat.add_mul _ _ _;exact ⟨by omega,by omega,by omega,by omega⟩
 have l1:=zR HX.out;have l2:=zR HY.out;clear hA hB b2 X2 HX1 HY1 HB1 hrn hqn hNM;go_enter Tryz.func75,Tryz.ntmps75;go_wp2_with fail;clear hw1 hwk hG0 z1 l1 l2;refine (zdu a b _ (HA.out.u (by have:=HN.out;omega)) (HB.out.u (by have:=HN.out;omega))).mono ?_;rintro e w3 ⟨x,rfl,hx,b3⟩;have HB3:=hide b3;clear b3;rcases hx with ⟨hf,rfl⟩ | ⟨hf,rfl⟩;rotate_left
 ·have Az:=HZ.out.below HB3.out;have st:=xj (m':=mkF fz0) Az;have HE1:Hid (SwBox (w3.setRow (G+2) (FaC (mkF fz0))) (G+2) (mkF fz0)):=Az.setRow;have HE:Hid (SwJ (N+M) w (w3.setRow (G+2) (FaC (mkF fz0))) (.returned (.tuple #[FaV (mkF fz0),.int .i64 1])) (SjD a b)):=⟨fz0,1,rfl,zbo _ _,zh (HBK.out.trans (HB3.out.mono HBK.out.size)) (by rw [HGs.out];omega),.inl ⟨hf,rfl,rfl⟩⟩;clear hf Az;go_wp2_with fail;clear st;refine bodyPost_ret (res2Sw rfl rfl rfl HE1.out) rfl ?_;exact HE.out
 have HFo:=hide hf;clear hf;obtain ⟨c0,-⟩:=(HX.out.below HB3.out).cs;obtain ⟨d0,-⟩:=(HY.out.below HB3.out).cs;have lp:=zj (HX.out.below HB3.out).past;have lq:=zj (HY.out.below HB3.out).past;go_wp2_with fail;clear c0 d0 lp lq;refine (zeS a.ao b.ao a.an a.ac b.an b.ac a.es b.es a.p b.p _ (HA.out.ok.es.below HB3.out) (HB.out.ok.es.below HB3.out) (HA.out.ok.p.below HB3.out) (HB.out.ok.p.below HB3.out)).mono ?_;rintro e w4 ⟨za,zn,zc,Z,er,rfl,SZ,b4,MD⟩;have HB4:=wTr HB3 b4;have HMD:=hide MD;have HSZ:=hide SZ;clear b4 MD SZ;by_cases h0:er=0;rotate_left
 ·have hz1:((er:Int) == 0)=false:=by simpa using h0
  have hz2:decide ((er:Int)=0)=false:=by simpa using h0
  have Az:=HZ.out.below HB4.out;have st:=xj (m':=mkF fz0) Az;have HE1:Hid (SwBox (w4.setRow (G+2) (FaC (mkF fz0))) (G+2) (mkF fz0)):=Az.setRow;have HE:Hid (SwJ (N+M) w (w4.setRow (G+2) (FaC (mkF fz0))) (.returned (.tuple #[FaV (mkF fz0),.int .i64 er])) (SjD a b)):=⟨fz0,er,rfl,zbo _ _,zh (HBK.out.trans (HB4.out.mono HBK.out.size)) (by rw [HGs.out];omega),.inr ⟨HFo.out,Z,er,HMD.out,.inl ⟨h0,rfl,rfl⟩⟩⟩;clear Az;go_wp2_with fail;clear st;refine bodyPost_ret (res2Sw rfl rfl rfl HE1.out) rfl ?_;exact HE.out
 subst h0
 have HKe:Hid (K.chk Z=0/\Z.length <= a.es.length+b.es.length):=by
  rcases HMD.out with ⟨-,-,h⟩ | ⟨-,-,-,h⟩ | ⟨h1,-,-,h2,h3⟩
  ·cases h
  ·cases h
  ·exact zgv h1 h2 h3
 have lp:=zj (HX.out.below HB4.out).past;have lq:=zj (HY.out.below HB4.out).past;have hPR:=prow2 w4 a.p b.p (HA.out.ok.p.below HB4.out) (HB.out.ok.p.below HB4.out);have b7:=ze w4 (.cells #[.slice a.p.vo a.p.vn a.p.vc,.slice a.p.co a.p.cn a.p.cc,.slice b.p.vo b.p.vn b.p.vc,.slice b.p.co b.p.cn b.p.cc] 26);have lb:=qQ a.p b.p w4;obtain ⟨g7,hg7⟩:∃ g7,w4.heap.size=g7:=⟨_,rfl⟩;obtain ⟨w7,hw7⟩:∃ w7,w4.alloc (.cells #[.slice a.p.vo a.p.vn a.p.vc,.slice a.p.co a.p.cn a.p.cc,.slice b.p.vo b.p.vn b.p.vc,.slice b.p.co b.p.cn b.p.cc] 26)=w7:=⟨_,rfl⟩;rw [hw7] at hPR b7 lb;rw [hg7] at hPR lb;have HPR:=hide hPR;have HB7:=wTr HB4 b7;have HZ7:=hide (HSZ.out.below b7);clear hPR b7;go_wp2_with fail;clear lp lq lb hg7 hw7;refine (xg (some ⟨g7,0,none⟩) 2 2 [a.p,b.p] _ HPR.out (zcm HFo.out.1.1.2.1 HFo.out.2.1.2.1) (by decide)).mono ?_
 rintro e wq ⟨q,rfl,Sq,-,bq,Cq⟩;obtain ⟨g8,hg8⟩:∃ g,wq.heap.size=g:=⟨_,rfl⟩;obtain ⟨w8,hst,X8,B8,-⟩:=madeP wq q g8 hg8;have b78:=bq.trans (B8.mono bq.size);have HB8:=wTr HB7 b78;have HZ8:=hide (HZ7.out.below b78);have HQ8:Hid (PBox w8 g8 q/\PSrc w8 q):=⟨X8,Sq.below B8⟩;have HCq:=hide Cq;clear Sq bq Cq X8 B8 b78;obtain ⟨-,c3⟩:=(HX.out.below HB8.out).cs;obtain ⟨-,d3⟩:=(HY.out.below HB8.out).cs;go_wp2_with fail;clear c3 d3 hst hg8;refine (zam a.ro b.ro a.rn a.rc b.rn b.rc a.rs b.rs _ ((HA.out.ok.row HA.out.row).below HB8.out) ((HB.out.ok.row HB.out.row).below HB8.out) (by have:=HRN.out;omega)).mono ?_;rintro e w9 (⟨-,-,⟨uo,un,uc⟩,U,rfl,GU,nU,UU⟩ | ⟨hno,-,-⟩);rotate_left
 ·exact absurd ⟨HFo.out.1.1.2.2,HFo.out.2.1.2.2⟩ hno
 have HB9:=wTr HB8 GU.below;have HZ9:=hide (HZ8.out.below GU.below);have HQ9:Hid (PBox w9 g8 q/\PSrc w9 q):=⟨HQ8.out.1.below GU.below,HQ8.out.2.below GU.below⟩;have HU:Hid (RcT w9 uo un uc U/\UnOf a.rs b.rs U/\un <= a.rn+b.rn/\U.length=un):=⟨GU.row,UU,nU,GU.src.len⟩;have HUc:=hide (zjt HU.out.2.1 HA.out.cl HB.out.cl)
 have HUO:Hid (OkR U un):=by have h:=HU.out.2.1.ok;rw [HU.out.2.2.2] at h;exact h
 rw [show HsV ⟨uo,un,uc⟩=Value.slice uo un uc from rfl];clear GU nU UU
 have HZn:Hid (zn <= a.an+b.an):=by
  have h1:=HKe.out.2;have h2:=HSZ.out.1;have h3:=HA.out.ok.es.1;have h4:=HB.out.ok.es.1
  show zn <= a.an+b.an
  omega
 go_wp2_with fail;refine (yD za uo zn zc un uc Z U _ HZ9.out HU.out.1.src (ziJ (by have:=HU.out.2.2;have:=HRN.out;omega) HUc.out) (zi3 (by have:=HU.out.2.2;have:=HRN.out;omega) (by have:=HZn.out;have:=HRN.out;omega))).mono ?_;rintro e wa (⟨-,-,ya,yn,yc,rfl,SY,ba,-⟩ | ⟨hno,-⟩);rotate_left
 ·exact absurd ⟨HKe.out.1,HUO.out⟩ hno
 have HBa:=wTr HB9 ba;have HQa:Hid (PBox wa g8 q/\PSrc wa q):=⟨HQ9.out.1.below ba,HQ9.out.2.below ba⟩;have HUa:=hide (HU.out.1.below ba);have HYa:=hide SY
 have HYn:Hid (yn <= a.an+b.an):=by
  have h1:=SY.1;have h2:=List.length_filter_le (freeB U) Z;have h3:=HSZ.out.1;have h4:=HZn.out
  show yn <= a.an+b.an
  omega
 clear SY ba
 have lp:=zj HQa.out.1.at
 go_wp2_with fail;clear lp;refine (jF uo un uc U q _ HUa.out HQa.out.2 (by have:=HU.out.2.2;have:=HRN.out;omega)).mono ?_;rintro e wb (⟨-,-,⟨fo,fn,fc⟩,F,rfl,GF,nF,WF⟩ | ⟨hno,-,-⟩);rotate_left
 ·exact absurd ⟨HUO.out,zP.1 HCq.out.canon⟩ hno
 have HBb:=wTr HBa GF.below;have HQb:Hid (PBox wb g8 q/\PSrc wb q):=⟨HQa.out.1.below GF.below,HQa.out.2.below GF.below⟩;have HYb:=hide (HYa.out.below GF.below);have Az:=HZ.out.below HBb.out;have st:=xj (m':=mkF ⟨ya,yn,yc,[],q,fo,fn,fc,[]⟩) Az;have HE1:Hid (SwBox (wb.setRow (G+2) (FaC (mkF ⟨ya,yn,yc,[],q,fo,fn,fc,[]⟩))) (G+2) (mkF ⟨ya,yn,yc,Z.filter (freeB U),q,fo,fn,fc,F⟩)):=Az.setRow
 have HE:Hid (SwJ (N+M) w (wb.setRow (G+2) (FaC (mkF ⟨ya,yn,yc,[],q,fo,fn,fc,[]⟩))) (.returned (.tuple #[FaV (mkF ⟨ya,yn,yc,Z.filter (freeB U),q,fo,fn,fc,F⟩),.int .i64 0])) (SjD a b)):=
  ⟨_,0,rfl,⟨FcOk.offW (f:=⟨ya,yn,yc,Z.filter (freeB U),q,fo,fn,fc,F⟩) ⟨HYb.out,HQb.out.2,GF.src⟩ Az _,⟨GF.room,GF.nil⟩,by have h1:=HU.out.2.2.1;have h2:=HRN.out.1;have h3:fn <= un:=nF;show fn <= _;omega,by have h1:=HYn.out;have h2:=HRN.out.2.1;show yn <= _;omega,zhr WF HUc.out⟩,
   zh (HBK.out.trans (HBb.out.mono HBK.out.size)) (by rw [HGs.out];omega),.inr ⟨HFo.out,Z,0,HMD.out,.inr ⟨rfl,rfl,U,HU.out.2.1,rfl,HCq.out,WF⟩⟩⟩
 have lp:=zj HQb.out.1.at
 rw [show HsV ⟨fo,fn,fc⟩=Value.slice fo fn fc from rfl];clear GF nF WF Az;go_wp2_with fail;clear lp st;refine bodyPost_ret (res2Sw rfl rfl rfl HE1.out) rfl ?_;exact HE.out
end
section
open Go.RowKit
def goneE (L:List K.En) (P:Pst) (d:Dg) (e:K.En):Prop:=(inB P e=true/\¬ ∃ x∈L,dotOf x=dotOf e)/\¬ (inB d.h.P e=true/\¬ inB d.l.P e=true)
def LsD (s:Fc) (d:Dg) (l:Fc):Prop:=l.es=s.es.filter (pkB d.h.P false)/\InForm l.p.P/\(∀ e,inB l.p.P e=true↔(okD (dotOf e)=true/\∃ x∈l.es,dotOf x=dotOf e)∨goneE s.es s.p.P d e)/\WtOf s.rs s.p.P l.rs
def LsR (s:Fc) (d:Dg) (l:Fc) (er:Int):Prop:=(¬ (FormS s/\FormD d.h.P d.l.P)/\er=1/\l=fz0)∨((FormS s/\FormD d.h.P d.l.P)/\er=0/\LsD s d l)
def LsE (N:Nat) (w w':World) (x:Ending) (s:Fc) (d:Dg):Prop:=∃ l er,x = .returned (.tuple #[FaV (mkF l),.int .i64 er])/\SwB N w' l/\Below w.heap.size w w'/\LsR s d l er
attribute [local go_sem ↓] zr zq zL zK xd ja
attribute [local go_sem] zi zk zE xu xQ zl zp zv qB xL qQ
end
section
open Go.RowKit
def LfD (f:Fc) (d:Dg) (l:Fc):Prop:=l.es=(liveF f).filter (pkB d.h.P false)/\∃ H,HeardOf f H/\InForm l.p.P/\(∀ e,inB l.p.P e=true↔goneE (liveF f) H d e)/\WtOf f.rs H l.rs
def LfR (f:Fc) (d:Dg) (l:Fc) (er:Int):Prop:=(¬ (FormF f/\FormD d.h.P d.l.P)/\er=1/\l=fz0)∨((FormF f/\FormD d.h.P d.l.P)/\er=0/\LfD f d l)
def LfE (N:Nat) (w w':World) (x:Ending) (f:Fc) (d:Dg):Prop:=∃ l er,x = .returned (.tuple #[FaV (mkF l),.int .i64 er])/\SwB N w' l/\Below w.heap.size w w'/\LfR f d l er
attribute [local go_sem ↓] zr zq zD zC xA
attribute [local go_sem] zi zk zE xu xQ zl zp zv qW kI
end
section
open Go.RowKit
def dk1:K.En:=⟨0,1,⟨#[65]⟩,5⟩
def dk2:K.En:=⟨0,2,⟨#[65]⟩,6⟩
def dkP:Pst:=⟨[1,1],[]⟩
def dkH:Pst:=⟨[2,1],[]⟩
def dkL:Pst:=⟨[],[⟨0,2,2⟩]⟩
def dkC:Array Value:=#[.int .i64 0,.int .i64 1,.string ⟨#[65]⟩,.int .i64 5,.int .i64 0,.int .i64 2,.string ⟨#[65]⟩,.int .i64 6]
def bsE2 (a:Array (Nat × Value)):Sem Value:=Instr.buildSlice 22 2 a
theorem zfz (a:Array (Nat × Value)):Instr.buildSlice 22 2 a=bsE2 a:=rfl
theorem zgb (w:World):(bsE2 #[(0,.agg #[.int .i64 0,.int .i64 1,.string ⟨#[65]⟩,.int .i64 5]),(1,.agg #[.int .i64 0,.int .i64 2,.string ⟨#[65]⟩,.int .i64 6])]).run Tryz.prog w = .ok (.slice (some ⟨w.heap.size,0,none⟩) 2 2) (w.alloc (.cells dkC 50)):=by kernel_rfl
theorem zdy (a v:Option Addr) (n c m d:Nat) (w:World):(bldF #[(0,.slice a n c),(1,.agg #[.slice v m d,.slice none 0 0])]).run Tryz.prog w = .ok (.agg #[.slice a n c,.slice v m d,.slice none 0 0,.slice none 0 0]) w:=by kernel_rfl
theorem madeFx (w:World) (m:Fc) (g:Nat) (hg:w.heap.size=g):∃ w':World,(stFa (.pointer (some ⟨g,0,none⟩)) (.agg (FaC (mkF m)))).run Tryz.prog (w.alloc (.cells (FaC (mkF fz0)) 29)) = .ok () w'/\FaBox w' g (mkF m)/\Below w.heap.size w w'/\w'.heap.size=w.heap.size+1:=by
 subst hg;exact ⟨_,qG (zY w _),(zY w _).setRow,zh (ze w _) (Nat.le_refl _),by simp [World.setRow]⟩
attribute [local go_sem ↓] zr zq zD zC xA zfz zco yC zcp
attribute [local go_sem] zi zk zl zp zv xu xQ zdy zgb bT bU kH
end
section
open Go.RowKit
def sx1:K.En:=⟨0,1,⟨#[65]⟩,5⟩
def sxP:Pst:=⟨[1],[]⟩
def A1D (s:Fc):Prop:=s.es=[sx1]/\s.an=1/\s.p.P=sxP/\s.rs=[]/\s.rn=0/\s.rc=0
def sxC:Array Value:=#[.int .i64 0,.int .i64 1,.string ⟨#[65]⟩,.int .i64 5]
def bsX1 (a:Array (Nat × Value)):Sem Value:=Instr.buildSlice 22 1 a
theorem zit (a:Array (Nat × Value)):Instr.buildSlice 22 1 a=bsX1 a:=rfl
theorem zf9 (w:World):(bsX1 #[(0,.agg #[.int .i64 0,.int .i64 1,.string ⟨#[65]⟩,.int .i64 5])]).run Tryz.prog w = .ok (.slice (some ⟨w.heap.size,0,none⟩) 1 1) (w.alloc (.cells sxC 50)):=by kernel_rfl
theorem zdx (a v:Option Addr) (n c m d:Nat) (w:World):(bldS #[(0,.slice a n c),(1,.agg #[.slice v m d,.slice none 0 0])]).run Tryz.prog w = .ok (.agg #[.slice a n c,.slice v m d,.slice none 0 0,.slice none 0 0]) w:=by kernel_rfl
theorem madeSx (w:World) (m:Fc) (g:Nat) (hg:w.heap.size=g):∃ w':World,(stSw (.pointer (some ⟨g,0,none⟩)) (.agg (FaC (mkF m)))).run Tryz.prog (w.alloc (.cells (FaC (mkF fz0)) 31)) = .ok () w'/\SwBox w' g (mkF m)/\Below w.heap.size w w'/\w'.heap.size=w.heap.size+1:=by
 subst hg;exact ⟨_,xj (qk w _),(qk w _).setRow,zh (ze w _) (Nat.le_refl _),by simp [World.setRow]⟩
attribute [local go_sem ↓] zr zq zL zK xd zit zco yC zcp
attribute [local go_sem] zi zk zl zp zv zdx zf9 bT bU kH
end
section
open Go.ChangeShapes Go.WideShapes Go.ChangeAt Go.RowKit Go.Joins

theorem own:ownKnob Tryz.prog.godebug=none:=by kernel_rfl
theorem laidOut:laidOutB Tryz.prog=true:=by kernel_rfl
theorem cellsS:Tryz.prog.cellsOf 104=3:=by kernel_rfl
theorem cellsI:Tryz.prog.cellsOf 3=1:=by kernel_rfl
theorem cellsP:Tryz.prog.cellsOf 26=2:=by kernel_rfl
theorem cellsV:Tryz.prog.cellsOf 23=1:=by kernel_rfl
theorem cellsC:Tryz.prog.cellsOf 24=1:=by kernel_rfl
theorem wI {H:Type} (d:DataW H):1 <= Rows.uptoBulk d:=by
 cases d with
 | lit l=>cases l <;> simp only [Rows.uptoBulk] <;> omega
 | _=>simp only [Rows.uptoBulk] <;> omega
theorem wJ {H:Type}:∀ (l:List (DataW H)),l.length <= Rows.uptoBulkAll l
 | []=>by simp
 | d :: l=>by have:=wJ l;have:=wI d;simp only [Rows.uptoBulkAll,List.length_cons];omega
theorem list2 {α : Type} {l:List α} (h:l.length=2):∃ a b,l=[a,b]:=by
 match l,h with
 | [a,b],_=>exact ⟨a,b,rfl⟩
theorem list3 {α : Type} {l:List α} (h:l.length=3):∃ a b c,l=[a,b,c]:=by
 match l,h with
 | [a,b,c],_=>exact ⟨a,b,c,rfl⟩
theorem zeF {H:Type} {enc:TypeId × Value -> H} {w:World} {base:Nat} {spare:Nat -> Bool} {held:Bool} {fuel:Nat} {cs:List Value} {x:DataW H × List MemPlace}
  (h:DataW.trod enc Tryz.prog w base spare held fuel 104 cs=some x):∃ e:Sn,cs=(SC e).toList:=by
 obtain ⟨xs,m,_,hx,hcl,hxl,hf⟩:=DataW.trod_struct Tryz.underlying104 h;obtain ⟨v0,v1,v2,rfl⟩:=list3 (hcl.trans cellsS);obtain ⟨y0,y1,y2,rfl⟩:=list3 hxl;have t0:=hf 0 _ rfl;have t1:=hf 1 _ rfl;have t2:=hf 2 _ rfl;simp [cellsI] at t0 t1 t2;obtain ⟨r,e0,-,_⟩:=DataW.trod_int Tryz.underlying3 t0;obtain ⟨n,e1,-,_⟩:=DataW.trod_int Tryz.underlying3 t1;obtain ⟨m',e2,-,_⟩:=DataW.trod_int Tryz.underlying3 t2;simp only [List.cons.injEq,and_true] at e0 e1 e2;subst e0 e1 e2;exact ⟨⟨r,n,m'⟩,rfl⟩
theorem viewI {H:Type} {enc:TypeId × Value -> H} {W:World} {fuel:Nat} {v:Value} {x:DataW H × List MemPlace}
  (h:DataW.trod enc Tryz.prog W 0 (fun _=>true) true fuel 23 [v]=some x) (hw:Rows.uptoBulk x.1 <= 1048576):∃ (ao:Option Addr) (n cap:Nat) (Z:List Int),v = .slice ao n cap/\V.Src W ao n cap Z/\n <= 1048576:=by
 rcases DataW.trod_slice Tryz.underlying23 h with h0 | ⟨a,len,cap,elems,rest,n,_,hcs,hx,hb,hl,hm,hlen,hel,hsp,hns⟩
 ·have e:v = .slice none 0 0:=by simpa using h0.1
  exact ⟨none,0,0,[],e,⟨rfl,fun _=>⟨rfl,rfl⟩,fun ad h=>(by cases h)⟩,Nat.zero_le _⟩
 ·subst hx
  have e:v = .slice (some a) len cap:=by simpa using hcs
  simp only [Rows.uptoBulk] at hw;have h1:=wJ (elems.map (·.1));simp only [List.length_map] at h1
  have key:∀ i,i < len -> ∃ z:Int,W.cell? (a.add i)=some (.int .i64 z):=by
   intro i hi;have he:=hel i hi;obtain ⟨y,hy⟩:∃ y,elems[i]? = some y:=⟨_,List.getElem?_eq_getElem (by omega)⟩;rw [hy,cellsI,Option.bind_eq_some_iff] at he;obtain ⟨cs',hcs,hy'⟩:=he;obtain ⟨hl',-,hce⟩:=World.cells?_some hcs;obtain ⟨z,rfl,-,_⟩:=DataW.trod_int Tryz.underlying3 hy';have g0:=hce 0 (by omega);rw [add_zero,Nat.mul_one] at g0;exact ⟨z,g0⟩
  refine ⟨some a,len,cap,(List.range len).map fun i=>if h:i < len then Classical.choose (key i h) else 0,e,⟨by simp,fun h=>(by cases h),fun ad h t ht=>?_⟩,by omega⟩;obtain rfl:=Option.some.inj h
  have:((List.range len).map fun i=>if h:i < len then Classical.choose (key i h) else 0).getD t 0=Classical.choose (key t ht):=by simp [List.getD,ht]
  rw [this];exact Classical.choose_spec (key t ht)
theorem viewC {H:Type} {enc:TypeId × Value -> H} {W:World} {fuel:Nat} {v:Value} {x:DataW H × List MemPlace}
  (h:DataW.trod enc Tryz.prog W 0 (fun _=>true) true fuel 24 [v]=some x) (hw:Rows.uptoBulk x.1 <= 1048576):∃ (ao:Option Addr) (n cap:Nat) (L:List Sn),v = .slice ao n cap/\SSrc W ao n cap L/\n <= 1048576:=by
 rcases DataW.trod_slice Tryz.underlying24 h with h0 | ⟨a,len,cap,elems,rest,n,_,hcs,hx,hb,hl,hm,hlen,hel,hsp,hns⟩
 ·have e:v = .slice none 0 0:=by simpa using h0.1
  exact ⟨none,0,0,[],e,SSrc.empty _,Nat.zero_le _⟩
 ·subst hx
  have e:v = .slice (some a) len cap:=by simpa using hcs
  simp only [Rows.uptoBulk] at hw;have h1:=wJ (elems.map (·.1));simp only [List.length_map] at h1
  have key:∀ i,i < len -> ∃ e:Sn,SnAt W (a.add (i * 3)) e:=by
   intro i hi;have he:=hel i hi;obtain ⟨y,hy⟩:∃ y,elems[i]? = some y:=⟨_,List.getElem?_eq_getElem (by omega)⟩;rw [hy,cellsS,Option.bind_eq_some_iff] at he;obtain ⟨cs',hcs,hy'⟩:=he;obtain ⟨_,-,hce⟩:=World.cells?_some hcs;obtain ⟨e,rfl⟩:=zeF hy';have g0:=hce 0 (by omega);rw [add_zero] at g0;exact ⟨e,⟨g0,hce 1 (by omega),hce 2 (by omega)⟩⟩
  refine ⟨some a,len,cap,(List.range len).map fun i=>if h:i < len then Classical.choose (key i h) else sn0,e,⟨by simp,fun h=>(by cases h),fun ad h t ht=>?_,by omega,hl⟩,by omega⟩;obtain rfl:=Option.some.inj h
  have:((List.range len).map fun i=>if h:i < len then Classical.choose (key i h) else sn0).getD t sn0=Classical.choose (key t ht):=by simp [List.getD,ht]
  rw [this];exact Classical.choose_spec (key t ht)
theorem viewP {H:Type} {enc:TypeId × Value -> H} {W:World} {fuel:Nat} {cs:List Value} {x:DataW H × List MemPlace}
  (h:DataW.trod enc Tryz.prog W 0 (fun _=>true) true fuel 26 cs=some x) (hw:Rows.uptoBulk x.1 <= 1048576):∃ p:Pv,cs=[.slice p.vo p.vn p.vc,.slice p.co p.cn p.cc]/\PSrc W p/\p.P.cloud.length <= 1048576:=by
 obtain ⟨xs,m,_,hx,hcl,hxl,hf⟩:=DataW.trod_struct Tryz.underlying26 h;obtain ⟨v0,v1,rfl⟩:=list2 (hcl.trans cellsP);obtain ⟨y0,y1,rfl⟩:=list2 hxl;have t0:=hf 0 _ rfl;have t1:=hf 1 _ rfl;simp [cellsV,cellsC] at t0 t1;subst hx;simp only [Rows.uptoBulk,List.map_cons,List.map_nil,Rows.uptoBulkAll] at hw;obtain ⟨a0,l0,c0,Z,rfl,S0,g0⟩:=viewI t0 (by omega);obtain ⟨a1,l1,c1,L,rfl,S1,g1⟩:=viewC t1 (by omega);exact ⟨⟨a0,l0,c0,a1,l1,c1,⟨Z,L⟩⟩,rfl,⟨S0,S1,by show l0 <= _;omega⟩,by show L.length <= _;rw [S1.len];exact g1⟩
end
end Go.Proofs.YtjffpimfngdggaaGreat
namespace Go.Proofs.YtjffpimfngdggaaGreat.K
open Go.ChangeShapes Go.WideShapes Go.ChangeAt Go.RowKit Go.Joins

theorem own:ownKnob Tryz.prog.godebug=none:=by kernel_rfl
theorem cells28:Tryz.prog.cellsOf 50=4:=by kernel_rfl
theorem cells26:Tryz.prog.cellsOf 48=2:=by kernel_rfl
theorem cells3:Tryz.prog.cellsOf 3=1:=by kernel_rfl
theorem cells9:Tryz.prog.cellsOf 9=1:=by kernel_rfl
theorem list2 {α : Type} {l:List α} (h:l.length=2):∃ a b,l=[a,b]:=by
 match l,h with
 | [a,b],_=>exact ⟨a,b,rfl⟩
theorem list3 {α : Type} {l:List α} (h:l.length=3):∃ a b c,l=[a,b,c]:=by
 match l,h with
 | [a,b,c],_=>exact ⟨a,b,c,rfl⟩
theorem list4 {α : Type} {l:List α} (h:l.length=4):∃ a b c d,l=[a,b,c,d]:=by
 match l,h with
 | [a,b,c,d],_=>exact ⟨a,b,c,d,rfl⟩
theorem zdE {H:Type} {enc:TypeId × Value -> H} {w:World} {base:Nat} {spare:Nat -> Bool} {held:Bool} {fuel:Nat} {cs:List Value} {x:DataW H × List MemPlace}
  (h:DataW.trod enc Tryz.prog w base spare held fuel 50 cs=some x):∃ e:En,cs=(EC e).toList/\e.sku.size <= maxLen:=by
 obtain ⟨xs,m,_,hx,hcl,hxl,hf⟩:=DataW.trod_struct Tryz.underlying50 h;obtain ⟨v0,v1,v2,v3,rfl⟩:=list4 (hcl.trans cells28);obtain ⟨y0,y1,y2,rfl⟩:=list3 hxl;have t0:=hf 0 _ rfl;have t1:=hf 1 _ rfl;have t2:=hf 2 _ rfl;simp [cells3,cells9,cells26] at t0 t1 t2;obtain ⟨xs',m',_,hx',hcl',hxl',hf'⟩:=DataW.trod_struct Tryz.underlying48 t0;obtain ⟨z0,z1,rfl⟩:=list2 hxl';have s0:=hf' 0 _ rfl;have s1:=hf' 1 _ rfl;simp [cells3] at s0 s1;obtain ⟨r,e0,-,_⟩:=DataW.trod_int Tryz.underlying3 s0;obtain ⟨n,e1,-,_⟩:=DataW.trod_int Tryz.underlying3 s1;obtain ⟨s,e2,-,w2⟩:=DataW.trod_string Tryz.underlying9 t1;obtain ⟨q,e3,-,_⟩:=DataW.trod_int Tryz.underlying3 t2;simp only [List.cons.injEq,and_true] at e0 e1 e2 e3;subst e0 e1 e2 e3;exact ⟨⟨r,n,s,q⟩,rfl,w2⟩
end Go.Proofs.YtjffpimfngdggaaGreat.K
namespace Go.Proofs.YtjffpimfngdggaaGreat
section
open Go.ChangeShapes Go.WideShapes Go.ChangeAt Go.RowKit Go.Joins

def RSmT (L:List Rc):Prop:=L.length <= 209715/\∀ r∈L,r.p.P.cloud.length <= 1048576
structure FcU (w:World) (f:Fc):Prop where
 ok:FcOk w f
 row:FcR f
 sm:RSmT f.rs
 an:f.an <= 1048576
theorem FcU.rn {w:World} {f:Fc} (h:FcU w f):f.rn <= 209715:=by rw [<- h.ok.rs.len];exact h.sm.1
theorem cellsRe:Tryz.prog.cellsOf 78=3:=by kernel_rfl
theorem cellsSk:Tryz.prog.cellsOf 9=1:=by kernel_rfl
theorem cellsEs:Tryz.prog.cellsOf 22=1:=by kernel_rfl
theorem cellsRs:Tryz.prog.cellsOf 27=1:=by kernel_rfl
theorem cellsFa:Tryz.prog.cellsOf 29=4:=by kernel_rfl
theorem zcl {H:Type}:∀ (l:List (DataW H)) (d:DataW H),d∈l -> Rows.uptoBulk d <= Rows.uptoBulkAll l
 | e :: l,d,h=>by
  simp only [Rows.uptoBulkAll];rcases List.mem_cons.1 h with rfl | h
  ·omega
  ·have:=zcl l d h;omega
theorem zbB {H:Type}:∀ (l:List (DataW H)),(∀ d∈l,5 <= Rows.uptoBulk d) -> 5 * l.length <= Rows.uptoBulkAll l
 | [],_=>by simp
 | d :: l,h=>by
  have h1:=zbB l (fun e he=>h e (List.mem_cons_of_mem _ he));have h2:=h d List.mem_cons_self;simp only [Rows.uptoBulkAll,List.length_cons];omega
theorem viewEu {H:Type} {enc:TypeId × Value -> H} {W:World} {fuel:Nat} {v:Value} {x:DataW H × List MemPlace}
  (h:DataW.trod enc Tryz.prog W 0 (fun _=>true) true fuel 22 [v]=some x) (hw:Rows.uptoBulk x.1 <= 1048576):∃ (ao:Option Addr) (n cap:Nat) (L:List K.En),v = .slice ao n cap/\K.ESrc W ao n cap L/\n <= 1048576:=by
 rcases DataW.trod_slice Tryz.underlying22 h with h0 | ⟨a,len,cap,elems,rest,n,_,hcs,hx,hb,hl,hm,hlen,hel,hsp,hns⟩
 ·have e:v = .slice none 0 0:=by simpa using h0.1
  exact ⟨none,0,0,[],e,⟨rfl,fun _=>⟨rfl,rfl⟩,fun ad h=>(by cases h),fun e he=>(by cases he),Nat.zero_le _⟩,Nat.zero_le _⟩
 ·subst hx
  have e:v = .slice (some a) len cap:=by simpa using hcs
  simp only [Rows.uptoBulk] at hw;have h1:=wJ (elems.map (·.1));simp only [List.length_map] at h1
  have key:∀ i,i < len -> ∃ e:K.En,K.EnAt W (a.add (i * 4)) e/\e.sku.size <= maxLen:=by
   intro i hi;have he:=hel i hi;obtain ⟨y,hy⟩:∃ y,elems[i]? = some y:=⟨_,List.getElem?_eq_getElem (by omega)⟩;rw [hy,K.cells28,Option.bind_eq_some_iff] at he;obtain ⟨cs',hcs,hy'⟩:=he;obtain ⟨_,-,hce⟩:=World.cells?_some hcs;obtain ⟨e,rfl,hs⟩:=K.zdE hy';have g0:=hce 0 (by omega);rw [add_zero] at g0;exact ⟨e,⟨g0,hce 1 (by omega),hce 2 (by omega),hce 3 (by omega)⟩,hs⟩
  refine ⟨some a,len,cap,(List.range len).map fun i=>if h:i < len then Classical.choose (key i h) else K.en0,e,⟨by simp,fun h=>(by cases h),fun ad h t ht=>?_,fun e he=>?_,by omega⟩,by omega⟩
  ·obtain rfl:=Option.some.inj h
   have:((List.range len).map fun i=>if h:i < len then Classical.choose (key i h) else K.en0).getD t K.en0=Classical.choose (key t ht):=by simp [List.getD,ht]
   rw [this];exact (Classical.choose_spec (key t ht)).1
  ·simp only [List.mem_map,List.mem_range] at he;obtain ⟨i,hi,rfl⟩:=he;rw [dif_pos hi];exact (Classical.choose_spec (key i hi)).2
theorem zeC {H:Type} {enc:TypeId × Value -> H} {W:World} {fuel:Nat} {cs:List Value} {x:DataW H × List MemPlace}
  (h:DataW.trod enc Tryz.prog W 0 (fun _=>true) true fuel 26 cs=some x):3 <= Rows.uptoBulk x.1:=by
 obtain ⟨xs,m,_,hx,hcl,hxl,hf⟩:=DataW.trod_struct Tryz.underlying26 h;obtain ⟨y0,y1,rfl⟩:=list2 hxl;subst hx;have h0:=wI y0.1;have h1:=wI y1.1;simp only [Rows.uptoBulk,List.map_cons,List.map_nil,Rows.uptoBulkAll];omega
theorem zbe {H:Type} {enc:TypeId × Value -> H} {W:World} {fuel:Nat} {cs:List Value} {x:DataW H × List MemPlace}
  (h:DataW.trod enc Tryz.prog W 0 (fun _=>true) true fuel 78 cs=some x):5 <= Rows.uptoBulk x.1/\(Rows.uptoBulk x.1 <= 1048576 -> ∃ r:Rc,cs=(ReC (mkR r)).toList/\RcOk W r/\r.p.P.cloud.length <= 1048576):=by
 obtain ⟨xs,m,_,hx,hcl,hxl,hf⟩:=DataW.trod_struct Tryz.underlying78 h;obtain ⟨v0,v1,v2,rfl⟩:=list3 (hcl.trans cellsRe);obtain ⟨y0,y1,rfl⟩:=list2 hxl;have t0:=hf 0 _ rfl;have t1:=hf 1 _ rfl;simp [cellsP,cellsSk] at t0 t1;subst hx;simp only [Rows.uptoBulk,List.map_cons,List.map_nil,Rows.uptoBulkAll];have b0:=wI y0.1;have b1:=zeC t1;refine ⟨by omega,fun hw=>?_⟩;obtain ⟨s,e0,-,hs⟩:=DataW.trod_string Tryz.underlying9 t0;obtain ⟨p,ep,Sp,hl⟩:=viewP t1 (by omega);simp only [List.cons.injEq,and_true] at e0 ep;obtain ⟨rfl,rfl⟩:=ep;subst e0;exact ⟨⟨s,p⟩,rfl,⟨Sp,hs⟩,hl⟩
theorem viewRT {H:Type} {enc:TypeId × Value -> H} {W:World} {fuel:Nat} {v:Value} {x:DataW H × List MemPlace}
  (h:DataW.trod enc Tryz.prog W 0 (fun _=>true) true fuel 27 [v]=some x) (hw:Rows.uptoBulk x.1 <= 1048576):∃ (ao:Option Addr) (n cap:Nat) (L:List Rc),v = .slice ao n cap/\RcT W ao n cap L/\RSmT L:=by
 rcases DataW.trod_slice Tryz.underlying27 h with h0 | ⟨a,len,cap,elems,rest,n,_,hcs,hx,hb,hl,hm,hlen,hel,hsp,hns⟩
 ·have e:v = .slice none 0 0:=by simpa using h0.1
  exact ⟨none,0,0,[],e,⟨RcS.empty _,Nat.le_refl _,fun _=>rfl⟩,Nat.zero_le _,fun r hr=>by cases hr⟩
 ·subst hx
  have e:v = .slice (some a) len cap:=by simpa using hcs
  simp only [Rows.uptoBulk] at hw
  have op:∀ i (hi:i < elems.length),i < len/\∃ cs',(5 <= Rows.uptoBulk elems[i].1/\(Rows.uptoBulk elems[i].1 <= 1048576 -> ∃ r:Rc,cs'=(ReC (mkR r)).toList/\RcOk W r/\r.p.P.cloud.length <= 1048576))/\(∀ j,j < 3 -> W.cell? ((a.add (i * 3)).add j)=cs'[j]?):=by
   intro i hi
   have hi':i < len:=by omega
   have he:=hel i hi';rw [List.getElem?_eq_getElem hi,cellsRe,Option.bind_eq_some_iff] at he;obtain ⟨cs',hcs,hy'⟩:=he;obtain ⟨_,-,hce⟩:=World.cells?_some hcs;exact ⟨hi',cs',zbe hy',fun j hj=>hce j hj⟩
  have h5:=zbB (elems.map (·.1)) (fun d hd=>by
   obtain ⟨y,hy,rfl⟩:=List.mem_map.1 hd;obtain ⟨i,hi,rfl⟩:=List.getElem_of_mem hy;obtain ⟨-,_,h,-⟩:=op i hi
   exact h.1)
  simp only [List.length_map] at h5
  have key:∀ i,i < len -> ∃ r:Rc,ReAt W (a.add (i * 3)) (mkR r)/\RcOk W r/\r.p.P.cloud.length <= 1048576:=by
   intro i hi
   have hi':i < elems.length:=by omega
   obtain ⟨-,cs',h,hce⟩:=op i hi';obtain ⟨r,rfl,hr,hl2⟩:=h.2 (by have:=zcl (elems.map (·.1)) elems[i].1 (List.mem_map_of_mem (f:=(·.1)) (List.getElem_mem hi'));omega);have g0:=hce 0 (by omega);rw [add_zero] at g0;exact ⟨r,⟨g0,hce 1 (by omega),hce 2 (by omega)⟩,hr,hl2⟩
  refine ⟨some a,len,cap,(List.range len).map fun i=>if h:i < len then Classical.choose (key i h) else rc0,e,⟨⟨by simp,(fun h=>by cases h),fun ad h t ht=>?_,fun r hr=>?_,by omega⟩,hl,fun h=>by cases h⟩,by simp;omega,fun r hr=>?_⟩
  ·obtain rfl:=Option.some.inj h
   have:((List.range len).map fun i=>if h:i < len then Classical.choose (key i h) else rc0).getD t rc0=Classical.choose (key t ht):=by simp [List.getD,ht]
   rw [this];exact (Classical.choose_spec (key t ht)).1
  ·simp only [List.mem_map,List.mem_range] at hr;obtain ⟨i,hi,rfl⟩:=hr;rw [dif_pos hi];exact (Classical.choose_spec (key i hi)).2.1
  ·simp only [List.mem_map,List.mem_range] at hr;obtain ⟨i,hi,rfl⟩:=hr;rw [dif_pos hi];exact (Classical.choose_spec (key i hi)).2.2
theorem ks {H:Type} {enc:TypeId × Value -> H} {W:World} {fuel:Nat} {cs:List Value} {x:DataW H × List MemPlace}
  (h:DataW.trod enc Tryz.prog W 0 (fun _=>true) true fuel 29 cs=some x) (hw:Rows.uptoBulk x.1 <= 1048576):∃ f:Fc,cs=(FaC (mkF f)).toList/\FcU W f:=by
 obtain ⟨xs,m,_,hx,hcl,hxl,hf⟩:=DataW.trod_struct Tryz.underlying29 h;obtain ⟨v0,v1,v2,v3,rfl⟩:=K.list4 (hcl.trans cellsFa);obtain ⟨y0,y1,y2,rfl⟩:=list3 hxl;have t0:=hf 0 _ rfl;have t1:=hf 1 _ rfl;have t2:=hf 2 _ rfl;simp [cellsP,cellsEs,cellsRs] at t0 t1 t2;subst hx;simp only [Rows.uptoBulk,List.map_cons,List.map_nil,Rows.uptoBulkAll] at hw;obtain ⟨ro,rn,rc,R,rfl,Sr,r1⟩:=viewRT t2 (by omega);obtain ⟨ao,an,ac,A,rfl,Sa,a1⟩:=viewEu t0 (by omega);obtain ⟨p,ep,Sp,-⟩:=viewP t1 (by omega);simp only [List.cons.injEq,and_true] at ep;obtain ⟨rfl,rfl⟩:=ep;exact ⟨⟨ao,an,ac,A,p,ro,rn,rc,R⟩,rfl,⟨Sa,Sp,Sr.src⟩,⟨Sr.room,Sr.nil⟩,r1,a1⟩
end
section
open Go.ChangeShapes Go.WideShapes Go.ChangeAt Go.RowKit Go.Joins
theorem cellsSw:Tryz.prog.cellsOf 31=4:=by kernel_rfl
theorem zdD {H:Type} {enc:TypeId × Value -> H} {W:World} {fuel:Nat} {cs:List Value} {x:DataW H × List MemPlace}
  (h:DataW.trod enc Tryz.prog W 0 (fun _=>true) true fuel 31 cs=some x) (hw:Rows.uptoBulk x.1 <= 1048576):∃ f:Fc,cs=(FaC (mkF f)).toList/\FcU W f:=by
 obtain ⟨xs,m,_,hx,hcl,hxl,hf⟩:=DataW.trod_struct Tryz.underlying31 h;obtain ⟨v0,v1,v2,v3,rfl⟩:=K.list4 (hcl.trans cellsSw);obtain ⟨y0,y1,y2,rfl⟩:=list3 hxl;have t0:=hf 0 _ rfl;have t1:=hf 1 _ rfl;have t2:=hf 2 _ rfl;simp [cellsP,cellsEs,cellsRs] at t0 t1 t2;subst hx;simp only [Rows.uptoBulk,List.map_cons,List.map_nil,Rows.uptoBulkAll] at hw;obtain ⟨ro,rn,rc,R,rfl,Sr,r1⟩:=viewRT t2 (by omega);obtain ⟨ao,an,ac,A,rfl,Sa,a1⟩:=viewEu t0 (by omega);obtain ⟨p,ep,Sp,-⟩:=viewP t1 (by omega);simp only [List.cons.injEq,and_true] at ep;obtain ⟨rfl,rfl⟩:=ep;exact ⟨⟨ao,an,ac,A,p,ro,rn,rc,R⟩,rfl,⟨Sa,Sp,Sr.src⟩,⟨Sr.room,Sr.nil⟩,r1,a1⟩
theorem FcU.b {w:World} {s:Fc} (h:FcU w s):SwB 1 w s:=⟨h.ok,h.row,by have:=h.rn;omega,by have:=h.an;omega,h.sm.2⟩
end
section
open Go.RowKit
attribute [local go_sem ↓] zL zK
attribute [local go_sem] zl zp zv xu xQ
end
section
open Go.RowKit
theorem ziO {f:Fc} (hr:f.rs.length=f.rn) (ff:FormF f):(∀ r∈f.rs,RecOk r)/\Srt ck (plR f.rs):=xH.1 (by rw [hr];exact ff.2.2)
theorem zbK {w:World} {f s:Fc} (hS:FcOk w s) (hl:f.es.length=f.an) (hr:f.rs.length=f.rn) (ff:FormF f) (h:StD f s):FormS s:=by
 obtain ⟨h1,h2,h3⟩:=h;have hc:=(kz hl).2 ff.1;have hs:=ziO hr ff
 have sub:∀ y∈plR s.rs,y∈plR f.rs/\¬ wiP y.2 s.p.P:=fun y hy=>by
  rw [h3.2,List.mem_filter] at hy;refine ⟨hy.1,fun k=>?_⟩;have:=hy.2;rw [bw k] at this
  cases this
 have mem:∀ e∈s.es,e∈f.es/\inB f.p.P e=false/\freeB f.rs e=true:=fun e he=>by
  rw [h1,List.mem_filter] at he;have h4:=he.2;unfold lvB at h4;rw [Bool.and_eq_true,Bool.not_eq_true'] at h4;exact ⟨he.1,h4.1,h4.2⟩
 refine (vX hS).2 ⟨?_,h2.1,⟨fun y hy=>?_,?_⟩,fun e he=>?_,fun y hy=>(sub y hy).2,fun e he r hr=>?_⟩
 ·show K.chk s.es=0
  rw [h1];exact bi hc _
 ·obtain ⟨r,hr,rfl⟩:=List.mem_map.1 (sub y hy).1;exact hs.1 r hr
 ·show Srt ck (plR s.rs)
  rw [h3.2];exact List.Pairwise.filter _ hs.2
 ·exact (zbn h2 e).2 (.inl ⟨zdf (jJ hc e (mem e he).1),e,(mem e he).1,rfl⟩)
 ·exact (zaq _ _).1 (mem e he).2.2 r (sub r hr).1
theorem st_b {N:Nat} {w w':World} {f s:Fc} (hB:SwB N w f) (hS:FcOk w' s) (hr:FcR s) (h:StD f s):SwB N w' s:=by
 refine ⟨hS,hr,?_,?_,zhr h.2.2 hB.cl⟩
 ·have h1:=congrArg List.length h.2.2.2;have h2:=List.length_filter_le (waitB s.p.P) (plR f.rs);rw [jO] at h1;rw [jO] at h2;have h3:=hS.rs.len;have h4:=hB.ok.rs.len;have h5:=hB.rn;omega
 ·have h1:s.es.length <= f.es.length:=by rw [h.1];exact List.length_filter_le _ _
  have h3:=hS.es.1;have h4:=hB.ok.es.1;have h5:=hB.an;omega
attribute [local go_sem ↓] zD zC zL zK
attribute [local go_sem] zl zp zv xu xQ
end
section
open Go.RowKit
def CoR (f s:Fc) (er:Int):Prop:=(¬ FormF f/\er=1/\s=fz0)∨(FormF f/\er=0/\StD f s)
def CoE (N:Nat) (w w':World) (x:Ending) (f:Fc):Prop:=∃ s er,x = .returned (.tuple #[FaV (mkF s),.int .i64 er])/\SwB N w' s/\Below w.heap.size w w'/\CoR f s er
theorem boxFS (w:World) (f:Fc):∃ wk,(w.alloc (.cells (FaC (mkF f)) 29)).alloc (.cells (FaC (mkF fz0)) 31)=wk/\Hid (FaBox wk w.heap.size (mkF f))/\Hid (SwBox wk (w.heap.size+1) (mkF fz0))/\Hid (Below w.heap.size w wk):=by
 have b1:=ze w (.cells (FaC (mkF f)) 29);have b2:=ze (w.alloc (.cells (FaC (mkF f)) 29)) (.cells (FaC (mkF fz0)) 31);have X2:=qk (w.alloc (.cells (FaC (mkF f)) 29)) (mkF fz0);rw [World.size_alloc] at X2;exact ⟨_,rfl,(zY w (mkF f)).below b2,X2,b1.trans (b2.mono b1.size)⟩
attribute [local go_sem ↓] zr zq zD zC zL zK xd
attribute [local go_sem] zi zk zE zl zp zv qB xL
theorem jT (N:Nat) (hN:N <= 4) (f:Fc) (w:World) (hS:SwB N w f):Calls Tryz.prog 7 #[FaV (mkF f)] w fun e w'=>CoE N w w' e f:=by
 obtain ⟨wk,hwk,HX,HZ,HBK⟩:=boxFS w f;obtain ⟨G,hG0⟩:∃ G,w.heap.size=G:=⟨_,rfl⟩;rw [hG0] at HX HZ;have HGs:Hid (w.heap.size=G):=hG0;have HS:=hide (hS.below HBK.out);have HU:=hide ((hS.below HBK.out).u hN);clear hS;have l0:=zT HX.out;go_enter Tryz.func7,Tryz.ntmps7;go_wp2_with fail;clear hwk hG0 l0;refine (wQ f _ HU.out.ok).mono ?_;rintro e v3 ⟨p,er,rfl,Sp,-,b3,hp⟩;obtain ⟨g4,hg4⟩:∃ g,v3.heap.size=g:=⟨_,rfl⟩;obtain ⟨w3,hst,X3,B3,-⟩:=madeP v3 p g4 hg4;have b33:=b3.trans (B3.mono b3.size);have HB3:=hide b33;have HXp:=hide X3;have HSp:=hide (Sp.below B3);have HP:=hide (bY hp);have A3:=HZ.out.below b33;clear Sp b3 hp X3 B3 b33;rcases HP.out with ⟨h1,rfl,-⟩ | ⟨h1,rfl,h2⟩
 ·have st:=xj (m':=mkF fz0) A3;have HE1:Hid (SwBox (w3.setRow (G+1) (FaC (mkF fz0))) (G+1) (mkF fz0)):=A3.setRow;have HE:Hid (CoE N w (w3.setRow (G+1) (FaC (mkF fz0))) (.returned (.tuple #[FaV (mkF fz0),.int .i64 1])) f):=⟨fz0,1,rfl,zbo N _,zh (HBK.out.trans (HB3.out.mono HBK.out.size)) (by rw [HGs.out];omega),.inl ⟨h1,rfl,rfl⟩⟩;clear h1 A3 HP;go_wp2_with fail;clear st hst hg4;refine bodyPost_ret (res2Sw rfl rfl rfl HE1.out) rfl ?_;exact HE.out
 have HFs:=hide h1;have HH:=hide h2;have HZ3:=hide A3;have l0:=zT (HX.out.below HB3.out);clear h1 h2 A3 HP;go_wp2_with fail;clear l0 hst hg4;refine (zed f _ (HU.out.ok.below HB3.out) HU.out.wt HU.out.nm).mono ?_;rintro e w5 hL;obtain ⟨lo,ln,lc,rfl,SL,b5,-⟩:K.GivesEE w3 w5 e (liveF f) 0:=hL.elim (fun h=>by have:=h.2;rwa [zi6] at this) fun h=>absurd HFs.out h.1;have HB5:=wTr HB3 b5;have HSL:=hide SL;have HXp5:=hide (HXp.out.below b5);have HSp5:=hide (HSp.out.below b5);have c3:=(HX.out.below HB5.out).cs.2
 have lp:=zj HXp5.out.at
 clear hL SL b5 HXp HSp;go_wp2_with fail;clear c3 lp;refine (jF f.ro f.rn f.rc f.rs p _ ((HS.out.ok.row HS.out.row).below HB5.out) HSp5.out (by have:=HU.out.rn;omega)).mono ?_;rintro e w7 (⟨-,-,⟨fo,fn,fc⟩,F,rfl,GF,nF,WF⟩ | ⟨hno,-,-⟩);rotate_left
 ·exact absurd ⟨HFs.out.2.2,HH.out.1⟩ hno
 rw [show HsV ⟨fo,fn,fc⟩=Value.slice fo fn fc from rfl];have HB7:=wTr HB5 GF.below;have HXp7:=hide (HXp5.out.below GF.below);have A9:=HZ.out.below HB7.out;have st:=xj (m':=mkF ⟨lo,ln,lc,liveF f,p,fo,fn,fc,F⟩) A9;have HE1:Hid (SwBox (w7.setRow (G+1) (FaC (mkF ⟨lo,ln,lc,liveF f,p,fo,fn,fc,F⟩))) (G+1) (mkF ⟨lo,ln,lc,liveF f,p,fo,fn,fc,F⟩)):=A9.setRow;have hok:FcOk (w7.setRow (G+1) (FaC (mkF ⟨lo,ln,lc,liveF f,p,fo,fn,fc,F⟩))) ⟨lo,ln,lc,liveF f,p,fo,fn,fc,F⟩:=FcOk.offW (f:=⟨lo,ln,lc,liveF f,p,fo,fn,fc,F⟩) ⟨HSL.out.below GF.below,HSp5.out.below GF.below,GF.src⟩ A9 _;have hsd:StD f ⟨lo,ln,lc,liveF f,p,fo,fn,fc,F⟩:=⟨rfl,HH.out,WF⟩
 have HE:Hid (CoE N w (w7.setRow (G+1) (FaC (mkF ⟨lo,ln,lc,liveF f,p,fo,fn,fc,F⟩))) (.returned (.tuple #[FaV (mkF ⟨lo,ln,lc,liveF f,p,fo,fn,fc,F⟩),.int .i64 0])) f):=
  ⟨⟨lo,ln,lc,liveF f,p,fo,fn,fc,F⟩,0,rfl,st_b HS.out hok ⟨GF.room,GF.nil⟩ hsd,zh (HBK.out.trans (HB7.out.mono HBK.out.size)) (by rw [HGs.out];omega),.inr ⟨HFs.out,rfl,hsd⟩⟩
 have st2:(stSw (.pointer (some ⟨G+1,0,none⟩)) (.agg (FaC (mkF ⟨lo,ln,lc,[],p,fo,fn,fc,[]⟩)))).run Tryz.prog w7 = .ok () (w7.setRow (G+1) (FaC (mkF ⟨lo,ln,lc,liveF f,p,fo,fn,fc,F⟩))):=st
 have lq:=zj HXp7.out.at
 clear A9 st hok hsd GF nF WF;go_wp2_with fail;clear st2 lq;refine bodyPost_ret (res2Sw rfl rfl rfl HE1.out) rfl ?_;exact HE.out
end
section
open Go.RowKit
structure Fp where
 E:K.En -> Prop
 G:K.En -> Prop
 R:Rp -> Prop
def fp (f:Fc):Fp:=⟨fun e=>e∈f.es,fun e=>inB f.p.P e=true,fun q=>q∈plR f.rs⟩
def un (x y:Fp):Fp:=⟨fun e=>x.E e∨y.E e,fun e=>x.G e∨y.G e,fun q=>x.R q∨y.R q⟩
def hr (x:Fp) (e:K.En):Prop:=(okD (dotOf e)=true/\∃ z,x.E z/\dotOf z=dotOf e)∨x.G e
def lv (x:Fp) (e:K.En):Prop:=x.E e/\¬ x.G e/\∀ q,x.R q -> covA q e=false
def wts (x:Fp) (q:Rp):Prop:=x.R q/\¬ ∀ e,inB q.2 e=true -> hr x e
def lvd (x:Fp) (e:K.En):Prop:=∃ z,lv x z/\dotOf z=dotOf e
def lk (x y:Fp):Fp:=⟨fun e=>lv y e/\¬ hr x e,fun e=>(hr y e/\¬ lvd y e)/\¬ (hr x e/\¬ lvd x e),wts y⟩
structure Sm (x y:Fp):Prop where
 h:∀ e,hr x e↔hr y e
 l:∀ e,lv x e↔lv y e
 w:∀ q,wts x q↔wts y q
structure Ok (x:Fp):Prop where
 d:∀ e,x.E e -> okD (dotOf e)=true
 g:∀ a b,dotOf a=dotOf b -> x.G a -> x.G b
def Nc (x y:Fp):Prop:=∀ a b,(x.E a∨y.E a) -> (x.E b∨y.E b) -> dotOf a=dotOf b -> a=b
end
section
open Go.RowKit
theorem SwB.offFa {N:Nat} {W:World} {g:Nat} {m:FacV} {f:Fc} (h:SwB N W f) (A:FaBox W g m) (c:Array Value):SwB N (W.setRow g c) f:=⟨h.ok.offF A c,h.row,h.rn,h.an,h.cl⟩
def JfD (f g h:Fc):Prop:=K.Asc h.es/\(∀ e,e∈h.es↔e∈f.es∨e∈g.es)/\CanonOf (runsOf [f.p,g.p]) h.p.P/\UnOf f.rs g.rs h.rs
def JfR (f g h:Fc) (er:Int):Prop:=(¬ (FormF f/\FormF g)/\er=1/\h=fz0)∨((FormF f/\FormF g)/\K.Clash (f.es++g.es)/\er=10/\h=fz0)∨((FormF f/\FormF g)/\¬ K.Clash (f.es++g.es)/\er=0/\JfD f g h)
def JfE (N:Nat) (w w':World) (x:Ending) (f g:Fc):Prop:=∃ h er,x = .returned (.tuple #[FaV (mkF h),.int .i64 er])/\SwB N w' h/\Below w.heap.size w w'/\JfR f g h er
attribute [local go_sem ↓] zD zC zL zK
attribute [local go_sem] zl zp zv xu xQ
end
section
open Go.RowKit
end
end Go.Proofs.YtjffpimfngdggaaGreat
