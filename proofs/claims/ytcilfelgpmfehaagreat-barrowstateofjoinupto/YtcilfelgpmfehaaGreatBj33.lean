/- YDd SXn -/
import Derived.Test.YtcilfelgpmfehaaGreatBj32
import Derived.Deep.CutRange
set_option maxRecDepth 100000
set_option maxHeartbeats 6400000
namespace Go.Proofs.YtcilfelgpmfehaaGreat
section
open Go.RowKit
def MnD (a b q:Pst):Prop:=∃ C:Nat -> List Rn,(∀ r,r < 16 -> cG (aa a r) (aa b r) (C r))/\ae C q
theorem MnD.inB {a b q:Pst} (h:MnD a b q) (e:K.En):inB q e=true↔inB a e=true/\¬ inB b e=true:=by
 obtain ⟨C,hC,hq⟩:=h;by_cases h0:0 <= e.rep/\e.rep < 16
 ·rw [vZ h0,vZ h0,vZ h0,zV hq _ (by omega),(hC _ (by omega)).2 e.num]
 ·constructor
  ·intro h;exact absurd (yU h) h0
  ·intro h;exact absurd (yU h.1) h0
def LkD (L:List K.En) (P:Pst) (d:Dg) (N:List K.En) (Q:Pst):Prop:=N=L.filter (pkB d.h.P false)/\af Q/\∀ e,inB Q e=true↔(inB P e=true/\¬ ∃ x∈L,am x=am e)/\¬ (inB d.h.P e=true/\¬ inB d.l.P e=true)
def LkG (w w':World) (x:Ending) (L:List K.En) (P:Pst) (d:Dg):Prop:=∃ no nn nc N q,x = .returned (.tuple #[.slice no nn nc,PV q])/\K.aF w' no nn nc N/\ak w' q/\Below w.heap.size w w'/\LkD L P d N q.P
def LkJ (w W:World) (G gx gy:Nat) (no:Option Addr) (nn nc:Nat) (N:List K.En) (m1 m2:Pv):Prop:=aE W gx m1/\aE W gy m2/\ak W m1/\ak W m2/\aE W (G+2) pv0/\K.aF W no nn nc N/\Below w.heap.size w W
attribute [local go_sem ↓] zl zk jl jb
attribute [local go_sem] zf zh zw q9 xz
end
section
open Go.RowKit
attribute [local go_sem ↓] zl zk zK zJ xm x4
attribute [local go_sem] zf zh zj zr zF qG xQ qV zw
theorem wN (N M:Nat) (hNM:N+M <= 4) (a b:Fc) (w:World) (hA:SwB N w a) (hB:SwB M w b):Calls Tryz.prog 12 #[FaV (mkF a),FaV (mkF b)] w fun e w'=>SwJ (N+M) w w' e (SjD a b):=by
 obtain ⟨w1,dH,gX,Er,aW,z1⟩:=nA w a b;have b2:=ze w1 (.cells (FaC (mkF fz0)) 38);have X2:=qD w1 (mkF fz0);rw [z1] at X2;obtain ⟨wk,cq⟩:∃ w2,w1.alloc (.cells (FaC (mkF fz0)) 38)=w2:=⟨_,rfl⟩;rw [cq] at b2 X2;have HX:=hide (gX.out.below b2);have HY:=hide (Er.out.below b2);have az:=wTr aW b2;obtain ⟨G,dC⟩:∃ G,w.heap.size=G:=⟨_,rfl⟩;rw [dC] at HX HY X2 z1;have HZ:=hide X2;have iP:Hid (w.heap.size=G):=dC;have HA:=hide (hA.below az.out);have HB:=hide (hB.below az.out);have HN:=hide hNM;have ni:a.rn <= N * 209716/\a.an <= N * 1048576:=⟨hA.rn,hA.an⟩;have ML:b.rn <= M * 209716/\b.an <= M * 1048576:=⟨hB.rn,hB.an⟩
 have uv:Hid (a.rn+b.rn <= (N+M) * 209716/\a.an+b.an <= (N+M) * 1048576/\a.rn+b.rn <= 838864/\a.an+b.an <= 4194304):=by
  have e1:(N+M) * 209716=N * 209716+M * 209716:=Nat.add_mul _ _ _;have e2:(N+M) * 1048576=N * 1048576+M * 1048576:=Nat.add_mul _ _ _;exact ⟨by omega,by omega,by omega,by omega⟩
 have l1:=z6 HX.out;have l2:=z6 HY.out;clear hA hB b2 X2 gX Er aW ni ML hNM;go_enter Tryz.func12,Tryz.ntmps12;go_wp2_with fail;clear dH cq dC z1 l1 l2;refine (zbR a b _ (HA.out.u (by have:=HN.out;omega)) (HB.out.u (by have:=HN.out;omega))).mono ?_;rintro e w3 ⟨x,rfl,hx,b3⟩;have aN:=hide b3;clear b3;rcases hx with ⟨hf,rfl⟩ | ⟨hf,rfl⟩;rotate_left
 ·have Az:=HZ.out.below aN.out;have st:=jI (m':=mkF fz0) Az;have dO:Hid (aI (w3.setRow (G+2) (FaC (mkF fz0))) (G+2) (mkF fz0)):=Az.setRow;have HE:Hid (SwJ (N+M) w (w3.setRow (G+2) (FaC (mkF fz0))) (.returned (.tuple #[FaV (mkF fz0),.int .i64 1])) (SjD a b)):=⟨fz0,1,rfl,zdm _ _,zg (az.out.trans (aN.out.mono az.out.size)) (by rw [iP.out];omega),.inl ⟨hf,rfl,rfl⟩⟩;clear hf Az;go_wp2_with fail;clear st;refine bodyPost_ret (ii rfl rfl rfl dO.out) rfl ?_;exact HE.out
 have iI:=hide hf;clear hf;obtain ⟨c0,-⟩:=(HX.out.below aN.out).cs;obtain ⟨d0,-⟩:=(HY.out.below aN.out).cs;have lp:=zi (HX.out.below aN.out).past;have lq:=zi (HY.out.below aN.out).past;go_wp2_with fail;clear c0 d0 lp lq;refine (zda a.ao b.ao a.an a.ac b.an b.ac a.es b.es a.p b.p _ (HA.out.ok.es.below aN.out) (HB.out.ok.es.below aN.out) (HA.out.ok.p.below aN.out) (HB.out.ok.p.below aN.out)).mono ?_;rintro e w4 ⟨za,zn,zc,Z,er,rfl,SZ,b4,MD⟩;have aR:=wTr aN b4;have Fx:=hide MD;have AI:=hide SZ;clear b4 MD SZ;by_cases h0:er=0;rotate_left
 ·have dm:((er:Int) == 0)=false:=by simpa using h0
  have ef:decide ((er:Int)=0)=false:=by simpa using h0
  have Az:=HZ.out.below aR.out;have st:=jI (m':=mkF fz0) Az;have dO:Hid (aI (w4.setRow (G+2) (FaC (mkF fz0))) (G+2) (mkF fz0)):=Az.setRow;have HE:Hid (SwJ (N+M) w (w4.setRow (G+2) (FaC (mkF fz0))) (.returned (.tuple #[FaV (mkF fz0),.int .i64 er])) (SjD a b)):=⟨fz0,er,rfl,zdm _ _,zg (az.out.trans (aR.out.mono az.out.size)) (by rw [iP.out];omega),.inr ⟨iI.out,Z,er,Fx.out,.inl ⟨h0,rfl,rfl⟩⟩⟩;clear Az;go_wp2_with fail;clear st;refine bodyPost_ret (ii rfl rfl rfl dO.out) rfl ?_;exact HE.out
 subst h0
 have IZ:Hid (K.chk Z=0/\Z.length <= a.es.length+b.es.length):=by
  rcases Fx.out with ⟨-,-,h⟩ | ⟨-,-,-,h⟩ | ⟨h1,-,-,h2,h3⟩
  ·cases h
  ·cases h
  ·exact zex h1 h2 h3
 have lp:=zi (HX.out.below aR.out).past;have lq:=zi (HY.out.below aR.out).past;have nk:=pI w4 a.p b.p (HA.out.ok.p.below aR.out) (HB.out.ok.p.below aR.out);have b7:=ze w4 (.cells #[.slice a.p.vo a.p.vn a.p.vc,.slice a.p.co a.p.cn a.p.cc,.slice b.p.vo b.p.vn b.p.vc,.slice b.p.co b.p.cn b.p.cc] 26);have lb:=qG a.p b.p w4;obtain ⟨g7,fT⟩:∃ g7,w4.heap.size=g7:=⟨_,rfl⟩;obtain ⟨w7,CO⟩:∃ w7,w4.alloc (.cells #[.slice a.p.vo a.p.vn a.p.vc,.slice a.p.co a.p.cn a.p.cc,.slice b.p.vo b.p.vn b.p.vc,.slice b.p.co b.p.cn b.p.cc] 26)=w7:=⟨_,rfl⟩;rw [CO] at nk b7 lb;rw [fT] at nk lb;have Bk:=hide nk;have cM:=wTr aR b7;have uh:=hide (AI.out.below b7);clear nk b7;go_wp2_with fail;clear lp lq lb fT CO;refine (qz (some ⟨g7,0,none⟩) 2 2 [a.p,b.p] _ Bk.out (za1 iI.out.1.1.2.1 iI.out.2.1.2.1) (by decide)).mono ?_
 rintro e wq ⟨q,rfl,Sq,-,bq,Cq⟩;obtain ⟨g8,tk⟩:∃ g,wq.heap.size=g:=⟨_,rfl⟩;obtain ⟨w8,cr,X8,B8,-⟩:=ip wq q g8 tk;have b78:=bq.trans (B8.mono bq.size);have iz:=wTr cM b78;have Gm:=hide (uh.out.below b78);have Ef:Hid (aE w8 g8 q/\ak w8 q):=⟨X8,Sq.below B8⟩;have JS:=hide Cq;clear Sq bq Cq X8 B8 b78;obtain ⟨-,c3⟩:=(HX.out.below iz.out).cs;obtain ⟨-,d3⟩:=(HY.out.below iz.out).cs;go_wp2_with fail;clear c3 d3 cr tk;refine (km a.ro b.ro a.rn a.rc b.rn b.rc a.rs b.rs _ ((HA.out.ok.row HA.out.row).below iz.out) ((HB.out.ok.row HB.out.row).below iz.out) (by have:=uv.out;omega)).mono ?_;rintro e w9 (⟨-,-,⟨uo,un,uc⟩,U,rfl,GU,nU,UU⟩ | ⟨hno,-,-⟩);rotate_left
 ·exact absurd ⟨iI.out.1.1.2.2,iI.out.2.1.2.2⟩ hno
 have eN:=wTr iz GU.below;have iH:=hide (Gm.out.below GU.below);have J0:Hid (aE w9 g8 q/\ak w9 q):=⟨Ef.out.1.below GU.below,Ef.out.2.below GU.below⟩;have HU:Hid (RcT w9 uo un uc U/\gS a.rs b.rs U/\un <= a.rn+b.rn/\U.length=un):=⟨GU.row,UU,nU,GU.src.len⟩;have J8:=hide (zgs HU.out.2.1 HA.out.cl HB.out.cl)
 have Ka:Hid (OkR U un):=by have h:=HU.out.2.1.ok;rw [HU.out.2.2.2] at h;exact h
 rw [show HsV ⟨uo,un,uc⟩=Value.slice uo un uc from rfl];clear GU nU UU
 have Je:Hid (zn <= a.an+b.an):=by
  have h1:=IZ.out.2;have h2:=AI.out.1;have h3:=HA.out.ok.es.1;have h4:=HB.out.ok.es.1
  show zn <= a.an+b.an
  omega
 go_wp2_with fail;refine (ws za uo zn zc un uc Z U _ iH.out HU.out.1.src (zgq (by have:=HU.out.2.2;have:=uv.out;omega) J8.out) (zgH (by have:=HU.out.2.2;have:=uv.out;omega) (by have:=Je.out;have:=uv.out;omega))).mono ?_;rintro e wa (⟨-,-,ya,yn,yc,rfl,SY,ba,-⟩ | ⟨hno,-⟩);rotate_left
 ·exact absurd ⟨IZ.out.1,Ka.out⟩ hno
 have nT:=wTr eN ba;have Em:Hid (aE wa g8 q/\ak wa q):=⟨J0.out.1.below ba,J0.out.2.below ba⟩;have Ml:=hide (HU.out.1.below ba);have KN:=hide SY
 have Mx:Hid (yn <= a.an+b.an):=by
  have h1:=SY.1;have h2:=List.length_filter_le (cN U) Z;have h3:=AI.out.1;have h4:=Je.out
  show yn <= a.an+b.an
  omega
 clear SY ba
 have lp:=zi Em.out.1.at
 go_wp2_with fail;clear lp;refine (jm uo un uc U q _ Ml.out Em.out.2 (by have:=HU.out.2.2;have:=uv.out;omega)).mono ?_;rintro e wb (⟨-,-,⟨fo,fn,fc⟩,F,rfl,GF,nF,WF⟩ | ⟨hno,-,-⟩);rotate_left
 ·exact absurd ⟨Ka.out,zz.1 JS.out.canon⟩ hno
 have EO:=wTr nT GF.below;have IU:Hid (aE wb g8 q/\ak wb q):=⟨Em.out.1.below GF.below,Em.out.2.below GF.below⟩;have L5:=hide (KN.out.below GF.below);have Az:=HZ.out.below EO.out;have st:=jI (m':=mkF ⟨ya,yn,yc,[],q,fo,fn,fc,[]⟩) Az;have dO:Hid (aI (wb.setRow (G+2) (FaC (mkF ⟨ya,yn,yc,[],q,fo,fn,fc,[]⟩))) (G+2) (mkF ⟨ya,yn,yc,Z.filter (cN U),q,fo,fn,fc,F⟩)):=Az.setRow
 have HE:Hid (SwJ (N+M) w (wb.setRow (G+2) (FaC (mkF ⟨ya,yn,yc,[],q,fo,fn,fc,[]⟩))) (.returned (.tuple #[FaV (mkF ⟨ya,yn,yc,Z.filter (cN U),q,fo,fn,fc,F⟩),.int .i64 0])) (SjD a b)):=
  ⟨_,0,rfl,⟨a8.offW (f:=⟨ya,yn,yc,Z.filter (cN U),q,fo,fn,fc,F⟩) ⟨L5.out,IU.out.2,GF.src⟩ Az _,⟨GF.room,GF.nil⟩,by have h1:=HU.out.2.2.1;have h2:=uv.out.1;have h3:fn <= un:=nF;show fn <= _;omega,by have h1:=Mx.out;have h2:=uv.out.2.1;show yn <= _;omega,zfl WF J8.out⟩,
   zg (az.out.trans (EO.out.mono az.out.size)) (by rw [iP.out];omega),.inr ⟨iI.out,Z,0,Fx.out,.inr ⟨rfl,rfl,U,HU.out.2.1,rfl,JS.out,WF⟩⟩⟩
 have lp:=zi IU.out.1.at
 rw [show HsV ⟨fo,fn,fc⟩=Value.slice fo fn fc from rfl];clear GF nF WF Az;go_wp2_with fail;clear lp st;refine bodyPost_ret (ii rfl rfl rfl dO.out) rfl ?_;exact HE.out
end
end Go.Proofs.YtcilfelgpmfehaaGreat
