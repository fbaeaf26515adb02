import Derived.Test.YtjffpimfngdggaaGreatFf30
import Derived.Deep.CutRange
import Derived.Maps.OwnSet
import Derived.DeepKeys4
set_option maxRecDepth 100000
set_option maxHeartbeats 6400000
namespace Go.Proofs.YtjffpimfngdggaaGreat
section
open Go.RowKit
attribute [local go_sem ↓] zq zp zP zO xe je
attribute [local go_sem] zi zk zl zr zv qR xL qF zI
theorem zdN (N M:Nat) (hNM:N+M <= 4) (a b:Fc) (w:World) (hA:SwB N w a) (hB:SwB M w b):Calls Tryz.prog 75 #[FaV (mkF a),FaV (mkF b)] w fun e w'=>SwJ (N+M) w w' e (SjD a b):=by
 obtain ⟨w1,cF,i6,Bl,aM,z1⟩:=pu w a b;have b2:=ze w1 (.cells (FaC (mkF fz0)) 31);have X2:=qs w1 (mkF fz0);rw [z1] at X2;obtain ⟨wk,aL⟩:∃ w2,w1.alloc (.cells (FaC (mkF fz0)) 31)=w2:=⟨_,rfl⟩;rw [aL] at b2 X2;have HX:=hide (i6.below b2);have HY:=hide (Bl.below b2);have al:=wTr aM b2;obtain ⟨G,cK⟩:∃ G,w.heap.size=G:=⟨_,rfl⟩;rw [cK] at HX HY X2 z1;have HZ:=hide X2;have eX:Hid (w.heap.size=G):=cK;have HA:=hide (hA.below al);have HB:=hide (hB.below al);have HN:=hide hNM;have rG:a.rn <= N * 209716/\a.an <= N * 1048576:=⟨hA.rn,hA.an⟩;have Ml:b.rn <= M * 209716/\b.an <= M * 1048576:=⟨hB.rn,hB.an⟩
 have Bv:Hid (a.rn+b.rn <= (N+M) * 209716/\a.an+b.an <= (N+M) * 1048576/\a.rn+b.rn <= 838864/\a.an+b.an <= 4194304):=by
  have e1:(N+M) * 209716=N * 209716+M * 209716:=Nat.add_mul _ _ _;have e2:(N+M) * 1048576=N * 1048576+M * 1048576:=Nat.add_mul _ _ _;exact ⟨by omega,by omega,by omega,by omega⟩
 have l1:=qt HX.out;have l2:=qt HY.out;clear hA hB b2 X2 i6 Bl aM rG Ml hNM;go_enter Tryz.func75,Tryz.ntmps75;go_wp2_with fail;clear cF aL cK z1 l1 l2;refine (zdO a b _ (HA.u (by have:=HN.out;omega)) (HB.u (by have:=HN.out;omega))).mono ?_;rintro e w3 ⟨x,rfl,hx,b3⟩;have aw:=hide b3;clear b3;rcases hx with ⟨hf,rfl⟩ | ⟨hf,rfl⟩;rotate_left
 ·have Az:=HZ.below aw.out;have st:=xJ (m':=mkF fz0) Az;have df:Hid (aG (w3.setRow (G+2) (FaC (mkF fz0))) (G+2) (mkF fz0)):=Az.setRow;have HE:Hid (SwJ (N+M) w (w3.setRow (G+2) (FaC (mkF fz0))) (.returned (.tuple #[FaV (mkF fz0),.int .i64 1])) (SjD a b)):=⟨fz0,1,rfl,ziD _ _,zh (tmq al aw) (by rw [eX.out];omega),.inl ⟨hf,rfl,rfl⟩⟩;clear hf Az;go_wp2_with fail;clear st;refine bodyPost_ret (lu rfl rfl rfl df) rfl ?_;exact HE.out
 have lJ:=hide hf;clear hf;obtain ⟨c0,-⟩:=(HX.below aw).cs;obtain ⟨d0,-⟩:=(HY.below aw).cs;have lp:=zj (HX.below aw).past;have lq:=zj (HY.below aw).past;go_wp2_with fail;clear c0 d0 lp lq;refine (zfe a.ao b.ao a.an a.ac b.an b.ac a.es b.es a.p b.p _ (HA.ok.es.below aw) (HB.ok.es.below aw) (HA.ok.p.below aw) (HB.ok.p.below aw)).mono ?_;rintro e w4 ⟨za,zn,zc,Z,er,rfl,SZ,b4,MD⟩;have aI:=wTr aw b4;have I9:=hide MD;have CP:=hide SZ;clear b4 MD SZ;by_cases h0:er=0;rotate_left
 ·have dw:((er:Int) == 0)=false:=by simpa using h0
  have eI:decide ((er:Int)=0)=false:=by simpa using h0
  have Az:=HZ.below aI.out;have st:=xJ (m':=mkF fz0) Az;have df:Hid (aG (w4.setRow (G+2) (FaC (mkF fz0))) (G+2) (mkF fz0)):=Az.setRow;have HE:Hid (SwJ (N+M) w (w4.setRow (G+2) (FaC (mkF fz0))) (.returned (.tuple #[FaV (mkF fz0),.int .i64 er])) (SjD a b)):=⟨fz0,er,rfl,ziD _ _,zh (tmq al aI) (by rw [eX.out];omega),.inr ⟨lJ.out,Z,er,I9.out,.inl ⟨h0,rfl,rfl⟩⟩⟩;clear Az;go_wp2_with fail;clear st;refine bodyPost_ret (lu rfl rfl rfl df) rfl ?_;exact HE.out
 subst h0
 have JU:Hid (K.chk Z=0/\Z.length <= a.es.length+b.es.length):=by
  rcases I9.out with ⟨-,-,h⟩ | ⟨-,-,-,h⟩ | ⟨h1,-,-,h2,h3⟩
  ·cases h
  ·cases h
  ·exact zgX h1 h2 h3
 have lp:=zj (HX.below aI).past;have lq:=zj (HY.below aI).past;have pR:=sG w4 a.p b.p (HA.ok.p.below aI) (HB.ok.p.below aI);have b7:=ze w4 (.cells #[.slice a.p.vo a.p.vn a.p.vc,.slice a.p.co a.p.cn a.p.cc,.slice b.p.vo b.p.vn b.p.vc,.slice b.p.co b.p.cn b.p.cc] 26);have lb:=qR a.p b.p w4;obtain ⟨g7,ia⟩:∃ g7,w4.heap.size=g7:=⟨_,rfl⟩;obtain ⟨w7,pe⟩:∃ w7,w4.alloc (.cells #[.slice a.p.vo a.p.vn a.p.vc,.slice a.p.co a.p.cn a.p.cc,.slice b.p.vo b.p.vn b.p.vc,.slice b.p.co b.p.cn b.p.cc] 26)=w7:=⟨_,rfl⟩;rw [pe] at pR b7 lb;rw [ia] at pR lb;have DQ:=hide pR;have dR:=wTr aI b7;have Ff:=hide (CP.below b7);clear pR b7;go_wp2_with fail;clear lp lq lb ia pe;refine (xi (some ⟨g7,0,none⟩) 2 2 [a.p,b.p] _ DQ.out (zcF lJ.1.1.2.1 lJ.2.1.2.1) (by decide)).mono ?_
 rintro e wq ⟨q,rfl,Sq,-,bq,Cq⟩;obtain ⟨g8,LL⟩:∃ g,wq.heap.size=g:=⟨_,rfl⟩;obtain ⟨w8,cd,X8,B8,-⟩:=iP wq q g8 LL;have b78:=tmq bq B8;have gA:=wTr dR b78;have Ix:=hide (Ff.below b78);have Bq:Hid (av w8 g8 q/\am w8 q):=⟨X8,Sq.below B8⟩;have C9:=hide Cq;clear Sq bq Cq X8 B8 b78;obtain ⟨-,c3⟩:=(HX.below gA).cs;obtain ⟨-,d3⟩:=(HY.below gA).cs;go_wp2_with fail;clear c3 d3 cd LL;refine (zaF a.ro b.ro a.rn a.rc b.rn b.rc a.rs b.rs _ ((HA.ok.row HA.row).below gA) ((HB.ok.row HB.row).below gA) (by have:=Bv.out;omega)).mono ?_;rintro e w9 (⟨-,-,⟨uo,un,uc⟩,U,rfl,GU,nU,UU⟩ | ⟨fR,-,-⟩);rotate_left
 ·exact absurd ⟨lJ.1.1.2.2,lJ.2.1.2.2⟩ fR
 have il:=wTr gA GU.below;have FR:=hide (Ix.below GU.below);have JY:Hid (av w9 g8 q/\am w9 q):=⟨Bq.1.below GU.below,Bq.2.below GU.below⟩;have HU:Hid (RcT w9 uo un uc U/\ly a.rs b.rs U/\un <= a.rn+b.rn/\U.length=un):=⟨GU.row,UU,nU,GU.src.len⟩;have Eg:=hide (zjS HU.2.1 HA.cl HB.cl)
 have JW:Hid (OkR U un):=by have h:=HU.2.1.ok;rw [HU.2.2.2] at h;exact h
 rw [show HsV ⟨uo,un,uc⟩=Value.slice uo un uc from rfl];clear GU nU UU
 have Lp:Hid (zn <= a.an+b.an):=by
  have h1:=JU.2;have h2:=CP.1;have h3:=HA.ok.es.1;have h4:=HB.ok.es.1
  show zn <= a.an+b.an
  omega
 go_wp2_with fail;refine (yN za uo zn zc un uc Z U _ FR.out HU.1.src (zi9 (by have:=HU.2.2;have:=Bv.out;omega) Eg) (zjt (by have:=HU.2.2;have:=Bv.out;omega) (by have:=Lp.out;have:=Bv.out;omega))).mono ?_;rintro e wa (⟨-,-,ya,yn,yc,rfl,SY,ba,-⟩ | ⟨fR,-⟩);rotate_left
 ·exact absurd ⟨JU.1,JW.out⟩ fR
 have mo:=wTr il ba;have FM:Hid (av wa g8 q/\am wa q):=⟨JY.1.below ba,JY.2.below ba⟩;have MW:=hide (HU.1.below ba);have Nz:=hide SY
 have Od:Hid (yn <= a.an+b.an):=by
  have h1:=SY.1;have h2:=List.length_filter_le (dn U) Z;have h3:=CP.1;have h4:=Lp.out
  show yn <= a.an+b.an
  omega
 clear SY ba
 have lp:=zj FM.1.at
 go_wp2_with fail;clear lp;refine (jM uo un uc U q _ MW.out FM.2 (by have:=HU.2.2;have:=Bv.out;omega)).mono ?_;rintro e wb (⟨-,-,⟨fo,fn,fc⟩,F,rfl,GF,nF,WF⟩ | ⟨fR,-,-⟩);rotate_left
 ·exact absurd ⟨JW.out,zT.1 C9.canon⟩ fR
 have tW:=wTr mo GF.below;have Lb:Hid (av wb g8 q/\am wb q):=⟨FM.1.below GF.below,FM.2.below GF.below⟩;have M6:=hide (Nz.below GF.below);have Az:=HZ.below tW.out;have st:=xJ (m':=mkF ⟨ya,yn,yc,[],q,fo,fn,fc,[]⟩) Az;have df:Hid (aG (wb.setRow (G+2) (FaC (mkF ⟨ya,yn,yc,[],q,fo,fn,fc,[]⟩))) (G+2) (mkF ⟨ya,yn,yc,Z.filter (dn U),q,fo,fn,fc,F⟩)):=Az.setRow
 have HE:Hid (SwJ (N+M) w (wb.setRow (G+2) (FaC (mkF ⟨ya,yn,yc,[],q,fo,fn,fc,[]⟩))) (.returned (.tuple #[FaV (mkF ⟨ya,yn,yc,Z.filter (dn U),q,fo,fn,fc,F⟩),.int .i64 0])) (SjD a b)):=
  ⟨_,0,rfl,⟨aU.offW (f:=⟨ya,yn,yc,Z.filter (dn U),q,fo,fn,fc,F⟩) ⟨M6.out,Lb.2,GF.src⟩ Az _,⟨GF.room,GF.nil⟩,by have h1:=HU.2.2.1;have h2:=Bv.1;have h3:fn <= un:=nF;show fn <= _;omega,by have h1:=Od.out;have h2:=Bv.2.1;show yn <= _;omega,zhU WF Eg⟩,
   zh (tmq al tW) (by rw [eX.out];omega),.inr ⟨lJ.out,Z,0,I9.out,.inr ⟨rfl,rfl,U,HU.2.1,rfl,C9.out,WF⟩⟩⟩
 have lp:=zj Lb.1.at
 rw [show HsV ⟨fo,fn,fc⟩=Value.slice fo fn fc from rfl];clear GF nF WF Az;go_wp2_with fail;clear lp st;refine bodyPost_ret (lu rfl rfl rfl df) rfl ?_;exact HE.out
end
section
open Go.RowKit
def AG (L:List K.En) (P:Pst) (d:Dg) (e:K.En):Prop:=(inB P e=true/\¬ ∃ x∈L,ae x=ae e)/\¬ (inB d.h.P e=true/\¬ inB d.l.P e=true)
def LsD (s:Fc) (d:Dg) (l:Fc):Prop:=l.es=s.es.filter (pkB d.h.P false)/\ag l.p.P/\(∀ e,inB l.p.P e=true↔(okD (ae e)=true/\∃ x∈l.es,ae x=ae e)∨AG s.es s.p.P d e)/\iW s.rs s.p.P l.rs
def LsR (s:Fc) (d:Dg) (l:Fc) (er:Int):Prop:=(¬ (aQ s/\pC d.h.P d.l.P)/\er=1/\l=fz0)∨((aQ s/\pC d.h.P d.l.P)/\er=0/\LsD s d l)
def LsE (N:Nat) (w w':World) (x:Ending) (s:Fc) (d:Dg):Prop:=∃ l er,x = .returned (.tuple #[FaV (mkF l),.int .i64 er])/\SwB N w' l/\Below w.heap.size w w'/\LsR s d l er
attribute [local go_sem ↓] zq zp zP zO xe je
attribute [local go_sem] zi zk zI xu xR zl zr zv qF xL qR
end
section
open Go.RowKit
def LfD (f:Fc) (d:Dg) (l:Fc):Prop:=l.es=(eK f).filter (pkB d.h.P false)/\∃ H,de f H/\ag l.p.P/\(∀ e,inB l.p.P e=true↔AG (eK f) H d e)/\iW f.rs H l.rs
def LfR (f:Fc) (d:Dg) (l:Fc) (er:Int):Prop:=(¬ (ar f/\pC d.h.P d.l.P)/\er=1/\l=fz0)∨((ar f/\pC d.h.P d.l.P)/\er=0/\LfD f d l)
def LfE (N:Nat) (w w':World) (x:Ending) (f:Fc) (d:Dg):Prop:=∃ l er,x = .returned (.tuple #[FaV (mkF l),.int .i64 er])/\SwB N w' l/\Below w.heap.size w w'/\LfR f d l er
attribute [local go_sem ↓] zq zp zE zD xz
attribute [local go_sem] zi zk zI xu xR zl zr zv qW kN
end
section
open Go.RowKit
def dk1:K.En:=⟨0,1,⟨#[65]⟩,5⟩
def dk2:K.En:=⟨0,2,⟨#[65]⟩,6⟩
def dkP:Pst:=⟨[1,1],[]⟩
def dkH:Pst:=⟨[2,1],[]⟩
def dkL:Pst:=⟨[],[⟨0,2,2⟩]⟩
def dkC:Array Value:=#[.int .i64 0,.int .i64 1,.string ⟨#[65]⟩,.int .i64 5,.int .i64 0,.int .i64 2,.string ⟨#[65]⟩,.int .i64 6]
def CC (a:Array (Nat × Value)):Sem Value:=Instr.buildSlice 22 2 a
theorem zf1 (a:Array (Nat × Value)):Instr.buildSlice 22 2 a=CC a:=rfl
theorem zgB (w:World):(CC #[(0,.agg #[.int .i64 0,.int .i64 1,.string ⟨#[65]⟩,.int .i64 5]),(1,.agg #[.int .i64 0,.int .i64 2,.string ⟨#[65]⟩,.int .i64 6])]).run Tryz.prog w = .ok (.slice (some ⟨w.heap.size,0,none⟩) 2 2) (w.alloc (.cells dkC 50)):=by kernel_rfl
theorem zdR (a v:Option Addr) (n c m d:Nat) (w:World):(lR #[(0,.slice a n c),(1,.agg #[.slice v m d,.slice none 0 0])]).run Tryz.prog w = .ok (.agg #[.slice a n c,.slice v m d,.slice none 0 0,.slice none 0 0]) w:=by kernel_rfl
theorem sZ (w:World) (m:Fc) (g:Nat) (hg:w.heap.size=g):∃ w':World,(oU (.pointer (some ⟨g,0,none⟩)) (.agg (FaC (mkF m)))).run Tryz.prog (w.alloc (.cells (FaC (mkF fz0)) 29)) = .ok () w'/\aF w' g (mkF m)/\Below w.heap.size w w'/\w'.heap.size=w.heap.size+1:=by
 subst hg;exact ⟨_,kJ (zU w _),(zU w _).setRow,zh (ze w _) (Nat.le_refl _),by simp [World.setRow]⟩
attribute [local go_sem ↓] zq zp zE zD xz zf1 zcG yM zcH
attribute [local go_sem] zi zk zl zr zv xu xR zdR zgB zaj zak kM
end
section
open Go.RowKit
def sx1:K.En:=⟨0,1,⟨#[65]⟩,5⟩
def sxP:Pst:=⟨[1],[]⟩
def A1D (s:Fc):Prop:=s.es=[sx1]/\s.an=1/\s.p.P=sxP/\s.rs=[]/\s.rn=0/\s.rc=0
def sxC:Array Value:=#[.int .i64 0,.int .i64 1,.string ⟨#[65]⟩,.int .i64 5]
def E1 (a:Array (Nat × Value)):Sem Value:=Instr.buildSlice 22 1 a
theorem ziU (a:Array (Nat × Value)):Instr.buildSlice 22 1 a=E1 a:=rfl
theorem zgA (w:World):(E1 #[(0,.agg #[.int .i64 0,.int .i64 1,.string ⟨#[65]⟩,.int .i64 5])]).run Tryz.prog w = .ok (.slice (some ⟨w.heap.size,0,none⟩) 1 1) (w.alloc (.cells sxC 50)):=by kernel_rfl
theorem zdQ (a v:Option Addr) (n c m d:Nat) (w:World):(rf #[(0,.slice a n c),(1,.agg #[.slice v m d,.slice none 0 0])]).run Tryz.prog w = .ok (.agg #[.slice a n c,.slice v m d,.slice none 0 0,.slice none 0 0]) w:=by kernel_rfl
theorem lC (w:World) (m:Fc) (g:Nat) (hg:w.heap.size=g):∃ w':World,(oZ (.pointer (some ⟨g,0,none⟩)) (.agg (FaC (mkF m)))).run Tryz.prog (w.alloc (.cells (FaC (mkF fz0)) 31)) = .ok () w'/\aG w' g (mkF m)/\Below w.heap.size w w'/\w'.heap.size=w.heap.size+1:=by
 subst hg;exact ⟨_,xJ (qs w _),(qs w _).setRow,zh (ze w _) (Nat.le_refl _),by simp [World.setRow]⟩
attribute [local go_sem ↓] zq zp zP zO xe ziU zcG yM zcH
attribute [local go_sem] zi zk zl zr zv zdQ zgA zaj zak kM
end
section
open Go.RowKit
attribute [local go_sem ↓] zP zO
attribute [local go_sem] zl zr zv xu xR
end
section
open Go.RowKit
theorem zje {f:Fc} (hr:f.rs.length=f.rn) (ff:ar f):(∀ r∈f.rs,ch r)/\Srt ck (plR f.rs):=xy.1 (by rw [hr];exact ff.2.2)
theorem ziq {w:World} {f s:Fc} (hS:aU w s) (hl:f.es.length=f.an) (hr:f.rs.length=f.rn) (ff:ar f) (h:StD f s):aQ s:=by
 obtain ⟨h1,h2,h3⟩:=h;have hc:=(js hl).2 ff.1;have hs:=zje hr ff
 have sub:∀ y∈plR s.rs,y∈plR f.rs/\¬ wiP y.2 s.p.P:=fun y hy=>by
  rw [h3.2,List.mem_filter] at hy;refine ⟨hy.1,fun k=>?_⟩;have:=hy.2;rw [bT k] at this
  cases this
 have mem:∀ e∈s.es,e∈f.es/\inB f.p.P e=false/\dn f.rs e=true:=fun e he=>by
  rw [h1,List.mem_filter] at he;have h4:=he.2;unfold lvB at h4;rw [Bool.and_eq_true,Bool.not_eq_true'] at h4;exact ⟨he.1,h4.1,h4.2⟩
 refine (zbE hS).2 ⟨?_,h2.1,⟨fun y hy=>?_,?_⟩,fun e he=>?_,fun y hy=>(sub y hy).2,fun e he r hr=>?_⟩
 ·show K.chk s.es=0
  rw [h1];exact bE hc _
 ·obtain ⟨r,hr,rfl⟩:=List.mem_map.1 (sub y hy).1;exact hs.1 r hr
 ·show Srt ck (plR s.rs)
  rw [h3.2];exact List.Pairwise.filter _ hs.2
 ·exact (zfr h2 e).2 (.inl ⟨zdB (jT hc e (mem e he).1),e,(mem e he).1,rfl⟩)
 ·exact (zaJ _ _).1 (mem e he).2.2 r (sub r hr).1
theorem EN {N:Nat} {w w':World} {f s:Fc} (hB:SwB N w f) (hS:aU w' s) (hr:FcR s) (h:StD f s):SwB N w' s:=by
 refine ⟨hS,hr,?_,?_,zhU h.2.2 hB.cl⟩
 ·have h1:=congrArg List.length h.2.2.2;have h2:=List.length_filter_le (waitB s.p.P) (plR f.rs);rw [jo] at h1;rw [jo] at h2;have h3:=hS.rs.len;have h4:=hB.ok.rs.len;have h5:=hB.rn;omega
 ·have h1:s.es.length <= f.es.length:=by rw [h.1];exact List.length_filter_le _ _
  have h3:=hS.es.1;have h4:=hB.ok.es.1;have h5:=hB.an;omega
attribute [local go_sem ↓] zE zD zP zO
attribute [local go_sem] zl zr zv xu xR
end
section
open Go.RowKit
def CoR (f s:Fc) (er:Int):Prop:=(¬ ar f/\er=1/\s=fz0)∨(ar f/\er=0/\StD f s)
def CoE (N:Nat) (w w':World) (x:Ending) (f:Fc):Prop:=∃ s er,x = .returned (.tuple #[FaV (mkF s),.int .i64 er])/\SwB N w' s/\Below w.heap.size w w'/\CoR f s er
theorem E0 (w:World) (f:Fc):∃ wk,(w.alloc (.cells (FaC (mkF f)) 29)).alloc (.cells (FaC (mkF fz0)) 31)=wk/\Hid (aF wk w.heap.size (mkF f))/\Hid (aG wk (w.heap.size+1) (mkF fz0))/\Hid (Below w.heap.size w wk):=by
 have b1:=ze w (.cells (FaC (mkF f)) 29);have b2:=ze (w.alloc (.cells (FaC (mkF f)) 29)) (.cells (FaC (mkF fz0)) 31);have X2:=qs (w.alloc (.cells (FaC (mkF f)) 29)) (mkF fz0);rw [World.size_alloc] at X2;exact ⟨_,rfl,(zU w (mkF f)).below b2,X2,tmq b1 b2⟩
attribute [local go_sem ↓] zq zp zE zD zP zO xe
attribute [local go_sem] zi zk zI zl zr zv qF xL
theorem yG (N:Nat) (hN:N <= 4) (f:Fc) (w:World) (hS:SwB N w f):Calls Tryz.prog 7 #[FaV (mkF f)] w fun e w'=>CoE N w w' e f:=by
 obtain ⟨wk,aL,HX,HZ,al⟩:=E0 w f;obtain ⟨G,cK⟩:∃ G,w.heap.size=G:=⟨_,rfl⟩;rw [cK] at HX HZ;have eX:Hid (w.heap.size=G):=cK;have HS:=hide (hS.below al);have HU:=hide ((hS.below al).u hN);clear hS;have l0:=zW HX.out;go_enter Tryz.func7,Tryz.ntmps7;go_wp2_with fail;clear aL cK l0;refine (za5 f _ HU.ok).mono ?_;rintro e v3 ⟨p,er,rfl,Sp,-,b3,hp⟩;obtain ⟨g4,Da⟩:∃ g,v3.heap.size=g:=⟨_,rfl⟩;obtain ⟨w3,cd,X3,B3,-⟩:=iP v3 p g4 Da;have b33:=tmq b3 B3;have aw:=hide b33;have Ki:=hide X3;have mR:=hide (Sp.below B3);have HP:=hide (zc5 hp);have A3:=HZ.below b33;clear Sp b3 hp X3 B3 b33;rcases HP.out with ⟨h1,rfl,-⟩ | ⟨h1,rfl,h2⟩
 ·have st:=xJ (m':=mkF fz0) A3;have df:Hid (aG (w3.setRow (G+1) (FaC (mkF fz0))) (G+1) (mkF fz0)):=A3.setRow;have HE:Hid (CoE N w (w3.setRow (G+1) (FaC (mkF fz0))) (.returned (.tuple #[FaV (mkF fz0),.int .i64 1])) f):=⟨fz0,1,rfl,ziD N _,zh (tmq al aw) (by rw [eX.out];omega),.inl ⟨h1,rfl,rfl⟩⟩;clear h1 A3 HP;go_wp2_with fail;clear st cd Da;refine bodyPost_ret (lu rfl rfl rfl df) rfl ?_;exact HE.out
 have re:=hide h1;have HH:=hide h2;have ud:=hide A3;have l0:=zW (HX.below aw);clear h1 h2 A3 HP;go_wp2_with fail;clear l0 cd Da;refine (zeA f _ (HU.ok.below aw) HU.wt HU.nm).mono ?_;rintro e w5 hL;obtain ⟨lo,ln,lc,rfl,SL,b5,-⟩:K.dz w3 w5 e (eK f) 0:=hL.elim (fun h=>by have:=h.2;rwa [zjw] at this) fun h=>absurd re.out h.1;have cZ:=wTr aw b5;have od:=hide SL;have De:=hide (Ki.below b5);have Dj:=hide (mR.below b5);have c3:=(HX.below cZ).cs.2
 have lp:=zj De.at
 clear hL SL b5 Ki mR;go_wp2_with fail;clear c3 lp;refine (jM f.ro f.rn f.rc f.rs p _ ((HS.ok.row HS.row).below cZ) Dj.out (by have:=HU.rn;omega)).mono ?_;rintro e w7 (⟨-,-,⟨fo,fn,fc⟩,F,rfl,GF,nF,WF⟩ | ⟨fR,-,-⟩);rotate_left
 ·exact absurd ⟨re.2.2,HH.1⟩ fR
 rw [show HsV ⟨fo,fn,fc⟩=Value.slice fo fn fc from rfl];have dR:=wTr cZ GF.below;have Ij:=hide (De.below GF.below);have A9:=HZ.below dR.out;have st:=xJ (m':=mkF ⟨lo,ln,lc,eK f,p,fo,fn,fc,F⟩) A9;have df:Hid (aG (w7.setRow (G+1) (FaC (mkF ⟨lo,ln,lc,eK f,p,fo,fn,fc,F⟩))) (G+1) (mkF ⟨lo,ln,lc,eK f,p,fo,fn,fc,F⟩)):=A9.setRow;have lH:aU (w7.setRow (G+1) (FaC (mkF ⟨lo,ln,lc,eK f,p,fo,fn,fc,F⟩))) ⟨lo,ln,lc,eK f,p,fo,fn,fc,F⟩:=aU.offW (f:=⟨lo,ln,lc,eK f,p,fo,fn,fc,F⟩) ⟨od.below GF.below,Dj.below GF.below,GF.src⟩ A9 _;have Bo:StD f ⟨lo,ln,lc,eK f,p,fo,fn,fc,F⟩:=⟨rfl,HH.out,WF⟩
 have HE:Hid (CoE N w (w7.setRow (G+1) (FaC (mkF ⟨lo,ln,lc,eK f,p,fo,fn,fc,F⟩))) (.returned (.tuple #[FaV (mkF ⟨lo,ln,lc,eK f,p,fo,fn,fc,F⟩),.int .i64 0])) f):=
  ⟨⟨lo,ln,lc,eK f,p,fo,fn,fc,F⟩,0,rfl,EN HS.out lH ⟨GF.room,GF.nil⟩ Bo,zh (tmq al dR) (by rw [eX.out];omega),.inr ⟨re.out,rfl,Bo⟩⟩
 have st2:(oZ (.pointer (some ⟨G+1,0,none⟩)) (.agg (FaC (mkF ⟨lo,ln,lc,[],p,fo,fn,fc,[]⟩)))).run Tryz.prog w7 = .ok () (w7.setRow (G+1) (FaC (mkF ⟨lo,ln,lc,eK f,p,fo,fn,fc,F⟩))):=st
 have lq:=zj Ij.at
 clear A9 st lH Bo GF nF WF;go_wp2_with fail;clear st2 lq;refine bodyPost_ret (lu rfl rfl rfl df) rfl ?_;exact HE.out
end
section
open Go.RowKit
structure Fp where
 E:K.En -> Prop
 G:K.En -> Prop
 R:Rp -> Prop
def fp (f:Fc):Fp:=⟨fun e=>e∈f.es,fun e=>inB f.p.P e=true,fun q=>q∈plR f.rs⟩
def un (x y:Fp):Fp:=⟨fun e=>x.E e∨y.E e,fun e=>x.G e∨y.G e,fun q=>x.R q∨y.R q⟩
def hr (x:Fp) (e:K.En):Prop:=(okD (ae e)=true/\∃ z,x.E z/\ae z=ae e)∨x.G e
def lv (x:Fp) (e:K.En):Prop:=x.E e/\¬ x.G e/\∀ q,x.R q -> uS q e=false
def wts (x:Fp) (q:Rp):Prop:=x.R q/\¬ ∀ e,inB q.2 e=true -> hr x e
def lvd (x:Fp) (e:K.En):Prop:=∃ z,lv x z/\ae z=ae e
def lk (x y:Fp):Fp:=⟨fun e=>lv y e/\¬ hr x e,fun e=>(hr y e/\¬ lvd y e)/\¬ (hr x e/\¬ lvd x e),wts y⟩
structure Sm (x y:Fp):Prop where
 h:∀ e,hr x e↔hr y e
 l:∀ e,lv x e↔lv y e
 w:∀ q,wts x q↔wts y q
structure Ok (x:Fp):Prop where
 d:∀ e,x.E e -> okD (ae e)=true
 g:∀ a b,ae a=ae b -> x.G a -> x.G b
def Nc (x y:Fp):Prop:=∀ a b,(x.E a∨y.E a) -> (x.E b∨y.E b) -> ae a=ae b -> a=b
end
section
open Go.RowKit
def JfD (f g h:Fc):Prop:=K.Asc h.es/\(∀ e,e∈h.es↔e∈f.es∨e∈g.es)/\af (aA [f.p,g.p]) h.p.P/\ly f.rs g.rs h.rs
def JfR (f g h:Fc) (er:Int):Prop:=(¬ (ar f/\ar g)/\er=1/\h=fz0)∨((ar f/\ar g)/\K.cI (f.es++g.es)/\er=10/\h=fz0)∨((ar f/\ar g)/\¬ K.cI (f.es++g.es)/\er=0/\JfD f g h)
def JfE (N:Nat) (w w':World) (x:Ending) (f g:Fc):Prop:=∃ h er,x = .returned (.tuple #[FaV (mkF h),.int .i64 er])/\SwB N w' h/\Below w.heap.size w w'/\JfR f g h er
attribute [local go_sem ↓] zE zD zP zO
attribute [local go_sem] zl zr zv xu xR
end
section
open Go.RowKit
end
section
open Go.RowKit
attribute [local go_sem ↓] zq zp qf qe
attribute [local go_sem] zi zk zL zS qg
theorem zdC:∀ x y:List UInt8,Lib.compareBytes x y = -1∨Lib.compareBytes x y=0∨Lib.compareBytes x y=1
 | [],[]=>by simp [Lib.compareBytes]
 | [],_ :: _=>by simp [Lib.compareBytes]
 | _ :: _,[]=>by simp [Lib.compareBytes]
 | a :: x,b :: y=>by
  have:=zdC x y;simp only [Lib.compareBytes]
  split
  ·simp
  ·split
   ·simp
   ·exact this
theorem ku (r:Rc) (w:World) (hR:cM w r):Calls Tryz.prog 94 #[ReV (mkR r)] w fun e w'=>cH w w' e (fu r):=by
 have HX:=hide (qi w (mkR r));have al:=hide (ze w (.cells (ReC (mkR r)) 78));have HS:=hide (hR.1.below al);have hs:=hR.2;clear hR;obtain ⟨wk,aL⟩:∃ wk,w.alloc (.cells (ReC (mkR r)) 78)=wk:=⟨_,rfl⟩;obtain ⟨G,hG⟩:∃ G,w.heap.size=G:=⟨_,rfl⟩;rw [aL] at HX al HS;rw [hG] at HX;have c0:=HX.sk;have l1:=zj HX.past;have HI:=hide (xM r.p wk HS);by_cases h0:r.s.size=0
 ·have e0:=K.jc r.s h0
  have HR:Hid (fH r.s=true):=by show _=_;unfold fH;rw [decide_eq_true h0,Bool.true_or]
  clear h0;go_enter Tryz.func94,Tryz.ntmps94;go_wp2_with fail;clear aL;refine HI.mono ?_;rintro e w3 ⟨b,rfl,hb,b3⟩;have aw:=wTr al b3;have dh:=hide (HX.below b3);have mn:=hide (HS.below b3);clear b3 l1 c0 HI hG
  cases b with
  | false =>
   have HN:Hid (fu r 1):=.inr (.inl ⟨HR.out,(fun h=>by have:=hb.2 h.1;cases this),rfl⟩);clear hb;go_wp2_with fail;go_ret;exact ⟨_,rfl,HN.out,aw.out⟩
  | true =>
   have HF:Hid (ag r.p.P):=hb.1 rfl;clear hb;have l3:=zj dh.past;go_wp2_with fail;refine (xA r.p _ mn).mono ?_;rintro e w4 ⟨b,rfl,hb,b4⟩;have aI:=wTr aw b4
   cases b with
   | false =>
    have HN:Hid (fu r 0):=.inr (.inr ⟨HR.out,⟨HF.out,(fun h=>by have:=hb.2 h;cases this)⟩,rfl⟩);clear b4 l3 hb;go_wp2_with fail;go_ret;exact ⟨_,rfl,HN.out,aI.out⟩
   | true =>
    have HN:Hid (fu r 1):=.inr (.inl ⟨HR.out,fun h=>h.2 (hb.1 rfl),rfl⟩);clear b4 l3 hb;go_wp2_with fail;go_ret;exact ⟨_,rfl,HN.out,aI.out⟩
 ·have e0:=K.jP r.s h0;go_enter Tryz.func94,Tryz.ntmps94;go_wp2_with fail;refine (K.jF r.s _ hs).mono ?_;rintro e w' ⟨rfl,rfl⟩
  cases hg:K.eQ r.s.data.toList with
  | false =>
   have HN:Hid (fu r 5):=.inl ⟨by unfold fH;rw [decide_eq_false h0,hg];rfl,rfl⟩;have u0:=hide al.out;clear hg h0;go_wp2_with fail;go_ret;exact ⟨_,rfl,HN.out,by have h:=u0.out;first | exact h | (rw [hG] at h;exact h)⟩
  | true =>
   have HR:Hid (fH r.s=true):=by show _=_;unfold fH;rw [hg,Bool.or_true]
   clear hg h0;go_wp2_with fail;refine HI.mono ?_;rintro e w3 ⟨b,rfl,hb,b3⟩;have aw:=wTr al b3;have dh:=hide (HX.below b3);have mn:=hide (HS.below b3);clear b3 l1 c0 HI hG
   cases b with
   | false =>
    have HN:Hid (fu r 1):=.inr (.inl ⟨HR.out,(fun h=>by have:=hb.2 h.1;cases this),rfl⟩);clear hb;go_wp2_with fail;go_ret;exact ⟨_,rfl,HN.out,aw.out⟩
   | true =>
    have HF:Hid (ag r.p.P):=hb.1 rfl;clear hb;have l3:=zj dh.past;go_wp2_with fail;refine (xA r.p _ mn).mono ?_;rintro e w4 ⟨b,rfl,hb,b4⟩;have aI:=wTr aw b4
    cases b with
    | false =>
     have HN:Hid (fu r 0):=.inr (.inr ⟨HR.out,⟨HF.out,(fun h=>by have:=hb.2 h;cases this)⟩,rfl⟩);clear b4 l3 hb;go_wp2_with fail;go_ret;exact ⟨_,rfl,HN.out,aI.out⟩
    | true =>
     have HN:Hid (fu r 1):=.inr (.inl ⟨HR.out,fun h=>h.2 (hb.1 rfl),rfl⟩);clear b4 l3 hb;go_wp2_with fail;go_ret;exact ⟨_,rfl,HN.out,aI.out⟩
theorem ym (a b:Rc) (w:World) (hA:cM w a) (hB:cM w b):Calls Tryz.prog 95 #[ReV (mkR a),ReV (mkR b)] w fun e w'=>cH w w' e (gl a b):=by
 have b1:=ze w (.cells (ReC (mkR a)) 78);have x1:=qi w (mkR a);have s1:=World.size_alloc w (.cells (ReC (mkR a)) 78);obtain ⟨g1,cP⟩:∃ g1,w.heap.size=g1:=⟨_,rfl⟩;obtain ⟨w1,cF⟩:∃ w1,w.alloc (.cells (ReC (mkR a)) 78)=w1:=⟨_,rfl⟩;rw [cF] at b1 x1 s1;have b2:=ze w1 (.cells (ReC (mkR b)) 78);have x2:=qi w1 (mkR b);obtain ⟨w2,eH⟩:∃ w2,w1.alloc (.cells (ReC (mkR b)) 78)=w2:=⟨_,rfl⟩;rw [eH] at b2 x2;rw [s1] at x2;rw [cP] at x1 x2 s1;have hb:=tmq b1 b2;have c1:=(x1.below b2).sk;have c2:=x2.sk;have l1:=zj (x1.below b2).past;have l2:=zj x2.past;have HC:=hide (ko a.p b.p w2 (hA.1.below hb) (hB.1.below hb));have HB:=hide hb;have f1:=(kF a.s b.s).1;have f2:=(kF a.s b.s).2;have hr:eZ a.s b.s = -1∨eZ a.s b.s=0∨eZ a.s b.s=1:=zdC _ _
 clear hA hB b1 b2 x1 x2 hb;rcases hr with h | h | h
 ·rw [h] at f1 f2;have f1:Op.bytesLess a.s.toList b.s.toList=true:=f1;have HF:Hid (gl a b (-1)):=.inl ⟨by rw [h];decide,h.symm⟩;clear h f2;go_enter Tryz.func95,Tryz.ntmps95;go_wp2_with fail;clear cF eH cP s1;go_ret;exact ⟨_,rfl,HF.out,HB.out⟩
 ·rw [h] at f1 f2;have f1:Op.bytesLess a.s.toList b.s.toList=false:=f1;have f2:(a.s.toList == b.s.toList)=true:=f2;have HE:=hide h;clear h;go_enter Tryz.func95,Tryz.ntmps95;go_wp2_with fail;clear cF eH cP s1;refine HC.mono ?_;rintro e w3 ⟨z,rfl,hz,b3⟩;have HF:Hid (gl a b z):=.inr ⟨HE.out,zfN hz⟩;have aw:=wTr HB b3;clear hz b3;go_wp2_with fail;go_ret;exact ⟨_,rfl,HF.out,aw.out⟩
 ·rw [h] at f1 f2;have f1:Op.bytesLess a.s.toList b.s.toList=false:=f1;have f2:(a.s.toList == b.s.toList)=false:=f2;have HF:Hid (gl a b 1):=.inl ⟨by rw [h];decide,h.symm⟩;clear h;go_enter Tryz.func95,Tryz.ntmps95;go_wp2_with fail;clear cF eH cP s1;go_ret;exact ⟨_,rfl,HF.out,HB.out⟩
theorem zar (ao:Option Addr) (n cap:Nat) (L:List Rc) (w:World) (hS:RcS w ao n cap L):Calls Tryz.prog 52 #[.slice ao n cap] w fun e w'=>cH w w' e (Cv L n):=by
 have HS:=hide hS;have hn:=hS.big;clear hS;go_enter Tryz.func52,Tryz.ntmps52;go_wp2_with fail;go_loopw [3] (fun i wr=>∃ k:Nat,k <= n/\i = .int .i64 k/\Hid (OkR L k)/\Hid (Below w.heap.size w wr)) (fun i _=>n - (intOf i).toNat)
 case atStart=>exact ⟨0,Nat.zero_le _,rfl,zau L,Below.refl _ _⟩
 case round =>
  obtain ⟨k,hk,rfl,HK,HB⟩:=hrel
  rename World=>wr
  by_cases ak:k < n
  ·obtain ⟨ad,rfl,A0⟩:=(HS.below HB).at k ak;have dF:=zC A0;have HO:=hide ((HS.below HB).okAt k ak);have mQ:=hide (HS.below HB);obtain ⟨r,Hr⟩:∃ r,Hid (L.getD k rc0=r):=⟨_,rfl⟩;rw [Hr.out] at dF HO;clear A0;have aK:=hide ak;go_wp2_with fail;refine (ku r _ HO).mono ?_;rintro e w1 ⟨b,rfl,hb,b1⟩;have aM:=wTr HB b1;have dg:=hide (mQ.below b1);clear b1 dF mQ HO;by_cases CN:b=0
   ·subst CN
    have oc:Hid (ch (L.getD k rc0)):=by rw [Hr.out];exact hb.zero.1 rfl
    clear hb;by_cases gL:k=0
    ·have iU:decide (0 < k)=false:=by rw [decide_eq_false_iff_not];omega
     have BU:=hide gL
     have tE:¬ (0 < k):=by omega
     clear gL;go_upto_region 6 with fail;refine wp_region_held_drew (S:=fun _=>True) (by kernel_rfl) (trivial) (fun hHeld=>?_);refine wU 0 ?_;refine wU 1 ?_;refine wU 2 ?_;refine wV 3 ?_;refine wV 4 ?_;refine wV 5 ?_;refine wV 6 ?_;refine wV 7 ?_;refine wV 8 ?_;refine wV 9 ?_;refine wV 10 ?_;refine wV 11 ?_;refine wV 12 ?_;refine wV 13 ?_;refine wU 14 ?_;refine wD ?_ _;clear hHeld;go_wp2_with fail;go_roundw
     case rel=>exact ⟨k+1,by omega,by simp,HK.snoc oc.out (fun h=>absurd h (by have:=BU.out;omega)),tmq aM (zf w1)⟩
     case measure=>simp [intOf];omega
    ·obtain ⟨j,Hj⟩:∃ j,Hid (k=j+1):=⟨k - 1,(show k=k - 1+1 by omega)⟩
     have m8:j < n:=by have:=Hj.out;omega
     have Jv:IntKind.i64.wrap ((k:Int) - 1)=(j:Int):=by rw [IntKind.wrap_i64];have:=Hj.out;omega
     have iU:decide (0 < k)=true:=by rw [decide_eq_true_iff];omega
     have tE:0 < k:=by omega
     obtain ⟨ad',e',Aj⟩:=dg.at j m8;obtain rfl:=Option.some.inj e';obtain ⟨ad',e2',Ak⟩:=dg.at k aK.out;obtain rfl:=Option.some.inj e2';have Ad:=hide (dg.okAt j m8);have D1:=hide (dg.okAt k aK);obtain ⟨q,Hq⟩:∃ q,Hid (L.getD j rc0=q):=⟨_,rfl⟩;rw [Hq.out] at Aj Ad;rw [Hr.out] at Ak D1;have rA:=hide Aj;have Dp:=hide Ak
     have lW:Hid (∀ z,gl q r z -> z < 0 -> (0 < k -> LtR (L.getD (k - 1) rc0) (L.getD k rc0))):=fun z h1 h2 _=>by
      rw [show k - 1=j by have:=Hj.out;omega,Hr.out,Hq.out];exact ⟨z,h1,h2⟩
     have ib:Hid (∀ z,gl q r z -> ¬ z < 0 -> ¬ OkR L n):=fun z h1 h2 h=>by
      have h3:=(h k aK).2 (by have:=Hj.out;omega);rw [show k - 1=j by have:=Hj.out;omega,Hr.out,Hq.out] at h3;obtain ⟨z2,h4,h5⟩:=h3;have:=h1.unique h4;omega
     clear Aj Ak e' e2' gL;go_upto_region 6 with fail;refine wp_region_held_drew (S:=fun v=>(dY (.pointer (some (ad.add (j * 3))))).run Tryz.prog v = .ok (.agg (ReC (mkR q))) v/\(dY (.pointer (some (ad.add (k * 3))))).run Tryz.prog v = .ok (.agg (ReC (mkR r))) v) (by kernel_rfl) (⟨zC (rA.on (zf w1)),zC (Dp.on (zf w1))⟩) (fun hHeld=>?_);refine wU 0 ?_;refine wU 1 ?_;refine wU 2 ?_;refine wU 3 ?_;refine wU 4 ?_;refine wU 5 ?_;refine wU 6 ?_;refine wU 7 ?_;refine wU 8 ?_;refine wU 9 ?_;refine wU 10 ?_;refine wU 11 ?_;refine wR 12 fun K hK=>?_;go_simp;go_wp2_with fail;refine (ym q r _ (Ad.below (zf w1)) (D1.below (zf w1))).mono ?_;rintro e w7 ⟨z,rfl,hz,b7⟩;have rL:Below w1.heap.size w1 w7:=(zf w1).trans b7
     have dR:=wTr aM rL;have HZ:=hide hz;refine hK.out _ _ (⟨zC (rA.on (rL)),zC (Dp.on (rL))⟩) (fun hHeld=>?_);clear hK K hz b7 rL;by_cases cY:(0:Int) <= z
     ·have HN:=hide (ib.out z HZ.out (by omega));refine wU 13 ?_;refine wU 14 ?_;refine wD ?_ _;clear hHeld;go_wp2_with fail;go_ret;exact ⟨_,rfl,.inr ⟨rfl,HN.out⟩,dR.out⟩
     ·have HL:=hide (lW.out z HZ.out (by omega));refine wU 13 ?_;refine wU 14 ?_;refine wD ?_ _;clear hHeld;go_wp2_with fail;go_roundw
      case rel=>exact ⟨k+1,by omega,by simp,HK.snoc oc.out HL,dR.out⟩
      case measure=>simp [intOf];omega
   ·have N7:(b != 0)=true:=by simpa using CN
    have HN:Hid (¬ OkR L n):=fun h=>by have h1:=(h k aK).1;rw [Hr.out] at h1;exact CN (hb.zero.2 h1)
    clear hb CN;go_wp2_with fail;go_ret;exact ⟨_,rfl,.inr ⟨rfl,HN.out⟩,aM.out⟩
  ·obtain rfl:k=n:=by omega
   go_wp2_with fail;go_ret;exact ⟨_,rfl,.inl ⟨rfl,HK.out⟩,HB.out⟩
end
section
open Go.RowKit
def G1D (s:Fc):Prop:=s.es=[]/\s.an=0/\s.p.P=sxP/\s.rs=[]/\s.rn=0/\s.rc=0
theorem zeP (v:Option Addr) (m d:Nat) (w:World):(rf #[(1,.agg #[.slice v m d,.slice none 0 0])]).run Tryz.prog w = .ok (.agg #[.slice none 0 0,.slice v m d,.slice none 0 0,.slice none 0 0]) w:=by kernel_rfl
attribute [local go_sem ↓] zq zp zP zO xe yM
attribute [local go_sem] zi zk zl zr zv zeP kM
theorem A1D.b {w:World} {s:Fc} (h:A1D s) (hF:aU w s):SwB 1 w s:=by
 obtain ⟨h1,h2,h3,h4,h5,h6⟩:=h;exact ⟨hF,⟨by omega,fun _=>h6⟩,by omega,by omega,by rw [h4];intro r hr;cases hr⟩
theorem G1D.b {w:World} {s:Fc} (h:G1D s) (hF:aU w s):SwB 1 w s:=by
 obtain ⟨h1,h2,h3,h4,h5,h6⟩:=h;exact ⟨hF,⟨by omega,fun _=>h6⟩,by omega,by omega,by rw [h4];intro r hr;cases hr⟩
end
section
open Go.RowKit
attribute [local go_sem ↓] zP zO xe
attribute [local go_sem] zl zr zv qF
end
section
open Go.RowKit
def Om (a b:Fc) (d:Rn):Prop:=∃ e∈a.es,ae e=d/\∃ r∈b.rs,cv r e=true
attribute [local go_sem ↓] zq zp zP zO zY zX K.zy K.zx qf qe zc1
attribute [local go_sem] zi zk zl zr zz zM zR K.zu K.zH K.zJ zL zS qg
end
section
open Go.RowKit
def eD (d:Rn):K.En:=⟨d.lo,d.hi,⟨#[]⟩,0⟩
theorem wC (P:Pst) (d:Rn):cj P d↔inB P (eD d)=true:=(ql P (eD d)).symm
def LvD (s:Fc) (d:Rn):Prop:=∃ e∈s.es,ae e=d
theorem uP.cases {s:Fc} {d:Rn} {x:Int} (hf:aQ s) (h:uP s d x):(¬ inB s.p.P (eD d)=true/\x=0)∨(inB s.p.P (eD d)=true/\LvD s d/\x=1)∨(inB s.p.P (eD d)=true/\¬ LvD s d/\x=2):=by
 rcases h with ⟨h,rfl⟩ | ⟨⟨-,h⟩,h2,rfl⟩ | ⟨⟨-,h⟩,h2,rfl⟩
 ·exact .inl ⟨fun k=>h ⟨hf,(wC _ _).2 k⟩,rfl⟩
 ·exact .inr (.inl ⟨(wC _ _).1 h,h2,rfl⟩)
 ·exact .inr (.inr ⟨(wC _ _).1 h,h2,rfl⟩)
theorem uP.zero {d:Rn} {x:Int} (h:uP fz0 d x):x=0:=by
 have hn:¬ cj fz0.p.P d:=fun k=>by
  have h1:=(wC _ _).1 k;rw [show fz0.p.P=pv0.P from rfl,zjV] at h1
  cases h1
 rcases h with ⟨-,h⟩ | ⟨⟨-,h⟩,-⟩ | ⟨⟨-,h⟩,-⟩
 ·exact h
 ·exact absurd h hn
 ·exact absurd h hn
attribute [local go_sem ↓] zq zp zP zO zY zX
attribute [local go_sem] zi zk zl zr zv zz zM zR
end
section
open Go.RowKit Go.Maps
def RE (v:Value):Option (DataW K.En × List MemPlace):=
 match v with
 | .agg cs=>(match cs.toList with
  | [.int .i64 r,.int .i64 n,.string s,.int .i64 q]=>some (.held ⟨r,n,s,q⟩,[])
  | _=>none)
 | _=>none
def DmE (D:DataW K.En) (L:List K.En):Prop:=∀ d l,keyOf Tryz.prog 48 (RV d)=some l -> (has D l=true↔∃ e∈L,ae e=d)/\∀ e∈L,ae e=d -> D.atKey l (.held K.en0) = .held e
def On (w:World) (b k:Nat) (L:List K.En):Prop:=∃ D,w.ownsMap Tryz.prog 48 RE b k D/\DmE D L
attribute [local go_sem ↓] zq zp zP zO zY zX K.zy K.zx
attribute [local go_sem] zi zk zl zr zz zM zR K.zu K.zH K.zJ
end
section
open Go.RowKit
theorem zjB {s t:Fc} (h:ab s=ab t):EqS s t:=⟨congrArg Ab.L h,congrArg Ab.P h,congrArg Ab.R h⟩
attribute [local go_sem ↓] zP zO xe
attribute [local go_sem] zl zr zv qF
end
end Go.Proofs.YtjffpimfngdggaaGreat
