import Derived.Test.YtjffpimfngdggaaGreatFf33
set_option maxRecDepth 100000
set_option maxHeartbeats 6400000
namespace Go.Proofs.YtjffpimfngdggaaGreat
section
open Go.RowKit
def FcL (w w':World) (e:Ending) (D:Fc -> Prop):Prop:=∃ h,e = .returned (FaV (mkF h))/\aU w' h/\FcR h/\FcN w.heap.size h/\Below w.heap.size w w'/\D h
def ri (f g h:Fc):Prop:=h.es=f.es.filter (dQ g.es)/\(∃ C:Nat -> List Rn,(∀ r,r < 16 -> cB (aa f.p.P r) (aa g.p.P r) (C r))/\af C h.p.P)/\uy f.rs g.rs h.rs/\h.rn <= f.rn
def Cs (f g:Fc):Prop:=(∀ x∈f.es,x∈g.es)/\(∀ r,r < 16 -> ∀ n,mem (aa f.p.P r) n -> mem (aa g.p.P r) n)/\∀ y∈plR f.rs,y∈plR g.rs
theorem ri.e0 {w:World} {f g h:Fc} (H:ri f g h) (hw:aU w h):h.an=0↔∀ x∈f.es,x∈g.es:=by
 rw [<- hw.es.1,H.1,List.length_eq_zero_iff,List.filter_eq_nil_iff];exact ⟨fun q x hx=>Classical.byContradiction fun hn=>q x hx (jy.2 hn),fun q x hx hn=>jy.1 hn (q x hx)⟩
theorem zhg {w W:World} {g:Nat} {m0:cw} {f:Fc} (D:Fc -> Prop) (hX:aF W g m0) (hF:aU W f) (hr:FcR f) (hn:FcN (g+1) f) (hb:Below w.heap.size w W) (hg:w.heap.size <= g) (hD:D f) :
  aF (W.setRow g (FaC (mkF f))) g (mkF f)/\FcL w (W.setRow g (FaC (mkF f))) (.returned (FaV (mkF f))) D:=
 ⟨hX.setRow,f,rfl,hF.off2 hn (fun k hk=>setRow_other _ _ _ _ (by omega)),hr,hn.mono (by omega),zh hb hg,hD⟩
attribute [local go_sem ↓] zq zp zE zD xz
attribute [local go_sem] zi zk zl zr zv qW jx
theorem zey (f g:Fc) (w:World) (hF:aU w f) (hG:aU w g) (hf:ar f) (hg:ar g) (hn:f.rn <= 2199023255551) :
  Calls Tryz.prog 78 #[FaV (mkF f),FaV (mkF g)] w fun e w'=>FcL w w' e (ri f g):=by
 obtain ⟨w2,eH,eS,rJ,cu⟩:=sW w f g;have b3:=ze w2 (.cells (FaC (mkF fz0)) 29);have X3:=zU w2 (mkF fz0)
 have ni:w2.heap.size=w.heap.size+2:=by rw [<- eH];simp
 obtain ⟨wk,aL⟩:∃ wk,w2.alloc (.cells (FaC (mkF fz0)) 29)=wk:=⟨_,rfl⟩;rw [aL] at b3 X3;rw [ni] at X3;obtain ⟨G,cK⟩:∃ G,w.heap.size=G:=⟨_,rfl⟩;rw [cK] at X3 eS rJ;have HX:=hide (eS.below b3);have HY:=hide (rJ.below b3);have HZ:=hide X3;have al:=wTr cu b3;have HF:=hide (hF.below al);have HG:=hide (hG.below al);have HR:Hid (ar f/\ar g/\f.rn <= 2199023255551):=⟨hf,hg,hn⟩;have eX:Hid (w.heap.size=G):=cK;have Ms:=hide ((vQ hG.es.1).2 hg.1);clear hF hG hf hg hn b3 X3 eS rJ cu
 have aB:Hid (∀ W:World,W.heap[G]? = wk.heap[G]? -> W.heap[G+1]? = wk.heap[G+1]? -> (W.cell? ⟨G,0,none⟩=some (.slice f.ao f.an f.ac)/\W.cell? ⟨G,3,none⟩=some (.slice f.ro f.rn f.rc)/\(ldP (.pointer (some ⟨G,1,none⟩))).run Tryz.prog W = .ok (PV f.p) W)/\(W.cell? ⟨G+1,0,none⟩=some (.slice g.ao g.an g.ac)/\W.cell? ⟨G+1,3,none⟩=some (.slice g.ro g.rn g.rc)/\(ldP (.pointer (some ⟨G+1,1,none⟩))).run Tryz.prog W = .ok (PV g.p) W)):=fun W h1 h2=>by
  have X:aF W G (mkF f):=h1.trans HX.out;have Y:aF W (G+1) (mkF g):=h2.trans HY.out;exact ⟨⟨X.cs.1,X.cs.2,zj X.past⟩,Y.cs.1,Y.cs.2,zj Y.past⟩
 go_enter Tryz.func78,Tryz.ntmps78;go_upto_region 1 with fail;clear eH aL ni cK;refine wp_region_held_drew (S:=fun v=>(v.cell? ⟨G,0,none⟩=some (.slice f.ao f.an f.ac)/\v.cell? ⟨G,3,none⟩=some (.slice f.ro f.rn f.rc)/\(ldP (.pointer (some ⟨G,1,none⟩))).run Tryz.prog v = .ok (PV f.p) v)/\(v.cell? ⟨G+1,0,none⟩=some (.slice g.ao g.an g.ac)/\v.cell? ⟨G+1,3,none⟩=some (.slice g.ro g.rn g.rc)/\(ldP (.pointer (some ⟨G+1,1,none⟩))).run Tryz.prog v = .ok (PV g.p) v)) (by kernel_rfl) (aB.out _ rfl rfl) (fun hHeld=>?_);refine wU 0 ?_;refine wU 1 ?_;refine wU 2 ?_;refine wU 3 ?_;refine wU 5 ?_;refine wU 6 ?_;refine wU 7 ?_;refine wU 8 ?_;refine wU 10 ?_;refine wU 11 ?_;refine wU 12 ?_;refine wU 13 ?_;refine wR 4 fun K hK=>?_;go_simp;go_wp2_with fail;have bd:=zf wk
 refine (zbB f.ao g.ao f.an f.ac g.an g.ac f.es g.es _ (HF.es.below bd) (HG.es.below bd) Ms).mono ?_;rintro x wa ⟨ao,n,c,rfl,S4,b4,n4⟩;have ba:=tmq bd b4;have mo:=wTr al ba;have tR:=hide (HF.below ba);have Fd:=hide (HG.below ba);have NY:=hide (HZ.below ba);have u5:=hide (aB.out _ (ba.block G HX.lt) (ba.block (G+1) HY.lt));have NJ:=hide S4
 have LE:Hid (∀ ad,ao=some ad -> G+3 <= ad.block):=fun ad e=>by
  have h1:=n4 ad e;have h2:=bd.size;have h3:=HZ.lt;omega
 refine hK.out _ _ u5.out (fun hHeld=>?_);clear hK K S4 b4 n4;refine wR 9 fun K hK=>?_;go_simp;go_wp2_with fail;refine (jH f.p g.p _ tR.p Fd.p).mono ?_;rintro x wb ⟨p,rfl,S5,n5,b5,c5⟩;have bb:=tmq ba b5;have tW:=wTr al bb;have DB:=hide (HF.below bb);have FK:=hide (HG.below bb);have Ew:=hide (HZ.below bb);have Dc:=hide (aB.out _ (bb.block G HX.lt) (bb.block (G+1) HY.lt));have Mk:=hide (NJ.below b5);have NV:=hide S5;have M0:Hid (dA (G+3) p):=n5.mono (by have:=NY.lt;omega);have Me:=hide c5;refine hK.out _ _ Dc.out (fun hHeld=>?_);clear hK K S5 b5 n5 c5;refine wR 14 fun K hK=>?_;go_simp;go_wp2_with fail;refine (zbA f.ro g.ro f.rn f.rc g.rn g.rc f.rs g.rs _ DB.rs FK.rs HR.1.2.2 HR.2.1.2.2 HR.2.2).mono ?_
 rintro x wc ⟨h5,F5,rfl,G5,m5,U5⟩;have b6:=G5.below;have bc:=tmq bb b6;have Gx:=wTr al bc;have CO:=hide (HZ.below bc);have CX:=hide (aB.out _ (bc.block G HX.lt) (bc.block (G+1) HY.lt))
 have hz:G+3 <= wb.heap.size:=by have:=Ew.lt;omega
 have Nh:=hide (Mk.below b6);have LX:=hide (NV.below b6);have Dk:Hid (RcT wc h5.o h5.n h5.c F5/\(∀ ad,h5.o=some ad -> G+3 <= ad.block)/\(∀ r∈F5,dA (G+3) r.p)):=⟨G5.row,fun ad e=>Nat.le_trans hz (G5.new ad e),fun r hr=>(G5.fresh r hr).mono hz⟩;have Eg:=hide (And.intro U5 m5);obtain ⟨ho,hn,hc⟩:=h5;rw [show HsV ⟨ho,hn,hc⟩=Value.slice ho hn hc from rfl];have ML:Hid (aU wc ⟨ao,n,c,f.es.filter (dQ g.es),p,ho,hn,hc,F5⟩):=⟨Nh.out,LX.out,Dk.1.src⟩;have Id:Hid (FcN (G+2+1) ⟨ao,n,c,f.es.filter (dQ g.es),p,ho,hn,hc,F5⟩):=⟨LE.out,M0.out,Dk.2.1,Dk.2.2⟩;have stz:=kJ (m':=mkF ⟨ao,n,c,f.es.filter (dQ g.es),p,ho,hn,hc,F5⟩) CO.out;have HE:=hide (zhg (w:=w) (f:=⟨ao,n,c,f.es.filter (dQ g.es),p,ho,hn,hc,F5⟩) (ri f g) CO.out ML.out ⟨Dk.1.room,Dk.1.nil⟩ Id.out Gx.out (by rw [eX.out];omega) ⟨rfl,Me.out,Eg.1,Eg.2⟩)
 replace stz:(oU (.pointer (some ⟨G+2,0,none⟩)) (.agg #[.slice ao n c,.slice p.vo p.vn p.vc,.slice p.co p.cn p.cc,.slice ho hn hc])).run Tryz.prog wc = .ok () (wc.setRow (G+2) (FaC (mkF ⟨ao,n,c,f.es.filter (dQ g.es),p,ho,hn,hc,F5⟩))):=stz;have FC:=hide (aB.out (wc.setRow (G+2) (FaC (mkF ⟨ao,n,c,f.es.filter (dQ g.es),p,ho,hn,hc,F5⟩))) ((setRow_other _ _ _ _ (by omega)).trans (bc.block G HX.lt)) ((setRow_other _ _ _ _ (by omega)).trans (bc.block (G+1) HY.lt)));have lbf:∀ W:World,(lR #[(0,.slice ao n c),(1,PV p),(2,.slice ho hn hc)]).run Tryz.prog W = .ok (.agg #[.slice ao n c,.slice p.vo p.vn p.vc,.slice p.co p.cn p.cc,.slice ho hn hc]) W:=fun W=>jx ao ho n c hn hc p W;refine hK.out _ _ CX.out (fun hHeld=>?_);clear hK K G5 m5 U5 b6 bc bb ba bd hz;refine wU 15 ?_;refine wR 16 fun K hK=>?_
 go_simp;refine hK.out _ _ FC.out (fun hHeld=>?_);clear hK K stz lbf;refine wD ?_ _;clear hHeld;go_wp2_with fail;refine bodyPost_ret (CL rfl rfl HE.1) rfl ?_;exact HE.2
def WtD (f g:Fc) (b:Bool) (er:Int):Prop:=(¬ (ar f/\ar g)/\b=false/\er=1)∨(ar f/\ar g/\er=0/\(b=true↔Cs f g))
end
section
open Go.RowKit
def Cf (f g h:Fc) (er:Int):Prop:=(¬ (ar f/\ar g)/\er=1/\h=fz0)∨(ar f/\ar g/\er=0/\ri f g h)
attribute [local go_sem ↓] zq zp zE zD xz
attribute [local go_sem] zi zk zl zr zv qW jx
theorem zeB (f g:Fc) (w:World) (hF:aU w f) (hG:aU w g) (hn:f.rn <= 2199023255551) :
  Calls Tryz.prog 39 #[FaV (mkF f),FaV (mkF g)] w fun e w'=>FcD w w' e (Cf f g):=by
 obtain ⟨w2,eH,eS,rJ,cu⟩:=sW w f g;have b3:=ze w2 (.cells (FaC (mkF fz0)) 29);have X3:=zU w2 (mkF fz0)
 have ni:w2.heap.size=w.heap.size+2:=by rw [<- eH];simp
 obtain ⟨wk,aL⟩:∃ wk,w2.alloc (.cells (FaC (mkF fz0)) 29)=wk:=⟨_,rfl⟩;rw [aL] at b3 X3;rw [ni] at X3;obtain ⟨G,cK⟩:∃ G,w.heap.size=G:=⟨_,rfl⟩;rw [cK] at X3 eS rJ;have HX:=hide (eS.below b3);have HY:=hide (rJ.below b3);have HZ:=hide X3;have al:=wTr cu b3;have HF:=hide (hF.below al);have HG:=hide (hG.below al);have HN:=hide hn;have eX:Hid (w.heap.size=G):=cK;clear hF hG hn b3 X3 eS rJ cu;have lf:=zW HX.out;have lg:=zW HY.out;go_enter Tryz.func39,Tryz.ntmps39;go_wp2_with fail;clear eH aL ni cK;refine (zaV f g _ HF.out HG).mono ?_;rintro e w3 ⟨x,rfl,hx,b3⟩;have aw:=wTr al b3;have dh:=hide (HX.below b3);have CT:=hide (HY.below b3);have ud:=hide (HZ.below b3);have rY:=hide (HF.below b3);have IE:=hide (HG.below b3);clear b3 lf lg
 rcases hx with ⟨rfl,h1,h2⟩ | ⟨rfl,h1⟩;rotate_left
 ·have st0:=kJ (m':=mkF fz0) ud.out;have HE:=hide (zfs (w:=w) (f:=fz0) (er:=1) (Cf f g) ud.out (zfu _) zft (ziC _) aw.out (by rw [eX.out];omega) (.inl ⟨h1,rfl,rfl⟩));clear h1;go_wp2_with fail;clear st0;refine bodyPost_ret (oJ rfl rfl rfl HE.1) rfl ?_;exact HE.2
 have lJ:Hid (ar f/\ar g):=⟨h1,h2⟩;clear h1 h2;have lf:=zW dh.out;have lg:=zW CT.out;go_wp2_with fail;clear lf lg;refine (zey f g _ rY.out IE.out lJ.1 lJ.2 HN).mono ?_;rintro e w4 ⟨h,rfl,F4,R4,N4,b4,L4⟩;have aI:=wTr aw b4;have FV:=hide (ud.below b4)
 have hz:G+2+1 <= w3.heap.size:=by have:=ud.lt;omega
 have stz:=kJ (m':=mkF h) FV.out;replace stz:(oU (.pointer (some ⟨G+2,0,none⟩)) (FaV (mkF h))).run Tryz.prog w4 = .ok () (w4.setRow (G+2) (FaC (mkF h))):=stz;have HE:=hide (zfs (w:=w) (f:=h) (er:=0) (Cf f g) FV.out F4 R4 (N4.mono hz) aI.out (by rw [eX.out];omega) (.inr ⟨lJ.1,lJ.2,rfl,L4⟩));clear F4 R4 N4 b4 L4 hz;go_wp2_with fail;clear stz;refine bodyPost_ret (oJ rfl rfl rfl HE.1) rfl ?_;exact HE.2
def JH (x y:Bool):Int:=if x && y then 0 else if x then 1 else if y then 2 else 3
def OrD (f g:Fc) (k er:Int):Prop:=(¬ (ar f/\ar g)/\k=0/\er=1)∨(ar f/\ar g/\er=0/\∃ x y:Bool,(x=true↔Cs f g)/\(y=true↔Cs g f)/\k=JH x y)
end
section
open Go.RowKit
theorem SwB.offWc {N:Nat} {W:World} {g:Nat} {m:cw} {f:Fc} (h:SwB N W f) (A:aG W g m) (c:Array Value):SwB N (W.setRow g c) f:=⟨h.ok.offW A c,h.row,h.rn,h.an,h.cl⟩
theorem vG (p:Pv) (w:World):(lR #[(1,.agg (PC p))]).run Tryz.prog w = .ok (.agg (FaC (mkF ⟨none,0,0,[],p,none,0,0,[]⟩))) w:=by kernel_rfl
theorem vH (a:Option Addr) (n c:Nat) (w:World):(lR #[(0,.slice a n c)]).run Tryz.prog w = .ok (.agg (FaC (mkF ⟨a,n,c,[],pv0,none,0,0,[]⟩))) w:=by kernel_rfl
theorem vF (a b:Option Addr) (n c m d:Nat) (p:Pv) (w:World):(lR #[(0,.slice a n c),(1,.agg (PC p)),(2,.slice b m d)]).run Tryz.prog w = .ok (.agg (FaC (mkF ⟨a,n,c,[],p,b,m,d,[]⟩))) w:=by kernel_rfl
def XpD (s h:Fc):Prop:=h.es=s.es/\∃ p,de ⟨s.ao,s.an,s.ac,s.es,pv0,none,0,0,[]⟩ p/\MnD s.p.P p h.p.P
def ndE (s:Fc):Fc:=⟨s.ao,s.an,s.ac,s.es,pv0,none,0,0,[]⟩
theorem zgO {s:Fc} (hf:aQ s):ar (ndE s):=⟨hf.1.1,(show ag pv0.P from ⟨by decide,trivial⟩),fun j hj=>absurd hj (Nat.not_lt_zero _)⟩
attribute [local go_sem ↓] zq zp zE zD zP zO xz
attribute [local go_sem] zi zk zI zl zr zv qW vG vH vF
theorem ER (w:World) (f:Fc):∃ wk,(w.alloc (.cells (FaC (mkF f)) 31)).alloc (.cells (FaC (mkF fz0)) 29)=wk/\Hid (aG wk w.heap.size (mkF f))/\Hid (aF wk (w.heap.size+1) (mkF fz0))/\Hid (Below w.heap.size w wk):=by
 have b1:=ze w (.cells (FaC (mkF f)) 31);have b2:=ze (w.alloc (.cells (FaC (mkF f)) 31)) (.cells (FaC (mkF fz0)) 29);have X2:=zU (w.alloc (.cells (FaC (mkF f)) 31)) (mkF fz0);rw [World.size_alloc] at X2;exact ⟨_,rfl,(qs w (mkF f)).below b2,X2,tmq b1 b2⟩
theorem zcC (N:Nat) (hN:N <= 4) (s:Fc) (w:World) (hS:SwB N w s) (hf:aQ s):Calls Tryz.prog 15 #[FaV (mkF s)] w fun e w'=>∃ h,e = .returned (.tuple #[FaV (mkF h),.int .i64 0])/\aU w' h/\Below w.heap.size w w'/\XpD s h:=by
 obtain ⟨wk,aL,HX,HZ,al⟩:=ER w s;obtain ⟨G,cK⟩:∃ G,w.heap.size=G:=⟨_,rfl⟩;rw [cK] at HX HZ;have eX:Hid (w.heap.size=G):=cK;have HU:=hide ((hS.below al).u hN);have HS:=hide (hS.below al);have re:=hide hf;clear hS hf;have l0:=qt HX.out;go_enter Tryz.func15,Tryz.ntmps15;go_wp2_with fail;clear aL cK l0;refine (HU.chk).mono ?_;rintro e w3 ⟨z,rfl,hz,b3⟩
 obtain rfl:z=0:=by
  rcases hz with ⟨-,h⟩ | ⟨h,-⟩
  ·exact h
  ·exact absurd re.out h
 have aw:=hide b3;clear b3 hz;have c0:=(HX.below aw).cs.1;go_wp2_with fail;clear c0;have Nl:Hid (aU w3 (ndE s)):=⟨(HS.ok.below aw).es,am.zero _,RcS.empty _⟩;refine (za5 (ndE s) _ Nl).mono ?_;rintro e v4 ⟨p,er,rfl,Sp,-,b4,hp⟩
 obtain ⟨rfl,hH⟩:er=0/\de (ndE s) p.P:=by
  rcases zc5 hp with ⟨h,-⟩ | ⟨-,h,k⟩
  ·exact absurd (zgO re) h
  ·exact ⟨h,k⟩
 obtain ⟨g4,Da⟩:∃ g,v4.heap.size=g:=⟨_,rfl⟩;obtain ⟨w4,cd,X4,B4,-⟩:=iP v4 p g4 Da;have b44:=tmq b4 B4;have aI:=wTr aw b44;have eE:=hide X4;have mR:=hide (Sp.below B4);have HH:=hide hH;clear Sp b4 hp hH X4 B4 b44;have c0:=(HX.below aI).cs.1;have c3:=(HX.below aI).cs.2;have lp:=zj (HX.below aI).past
 have lq:=zj eE.at
 go_wp2_with fail;clear c0 c3 lp lq cd Da;have HL:Hid (aU w4 ⟨none,0,0,[],p,none,0,0,[]⟩):=⟨(zfu _).es,mR.out,RcS.empty _⟩;refine (zeB s ⟨none,0,0,[],p,none,0,0,[]⟩ _ (HS.ok.below aI) HL.out (by have:=HS.rn;omega)).mono ?_;rintro e w5 ⟨h,er,rfl,Fh,-,-,b5,hh⟩
 obtain ⟨rfl,hL⟩:er=0/\ri s ⟨none,0,0,[],p,none,0,0,[]⟩ h:=by
  rcases hh with ⟨k,-⟩ | ⟨-,-,k,q⟩
  ·exact absurd ⟨⟨re.1.1,re.1.2.1,re.1.2.2⟩,⟨rfl,HH.1,fun j hj=>absurd hj (Nat.not_lt_zero _)⟩⟩ k
  ·exact ⟨k,q⟩
 have cZ:=wTr aI b5;have A5:=HZ.below cZ.out;have st:=kJ (m':=mkF h) A5;have df:Hid (aF (w5.setRow (G+1) (FaC (mkF h))) (G+1) (mkF h)):=A5.setRow
 have HE:Hid (∃ h',Ending.returned (.tuple #[FaV (mkF h),.int .i64 0]) = .returned (.tuple #[FaV (mkF h'),.int .i64 0])/\aU (w5.setRow (G+1) (FaC (mkF h))) h'/\Below w.heap.size w (w5.setRow (G+1) (FaC (mkF h)))/\XpD s h'):=by
  refine ⟨h,rfl,Fh.offF A5 _,zh (tmq al cZ) (by rw [eX.out];omega),?_,p.P,HH.out,hL.2.1⟩;rw [hL.1];refine List.filter_eq_self.2 fun e _=>jy.2 (fun k=>by cases k)
 clear Fh b5 hh hL A5;go_wp2_with fail;clear st;refine bodyPost_ret (oJ rfl rfl rfl df) rfl ?_;exact HE.out
/-! ### the chapter's facts -/
def ck1:K.En:=⟨0,1,⟨#[65]⟩,5⟩
def ck2:K.En:=⟨1,1,⟨#[66]⟩,7⟩
def gu:Pst:=⟨[1],[]⟩
def mx:Pst:=⟨[1,1],[]⟩
def ckQ:Pst:=⟨[2],[]⟩
def ckR (gq:Nat):Rc:=⟨⟨#[65]⟩,⟨some ⟨gq,0,none⟩,1,1,none,0,0,ckQ⟩⟩
def ckC:Array Value:=#[.int .i64 0,.int .i64 1,.string ⟨#[65]⟩,.int .i64 5,.int .i64 1,.int .i64 1,.string ⟨#[66]⟩,.int .i64 7]
theorem zbd (w:World):(CC #[(0,.agg #[.int .i64 0,.int .i64 1,.string ⟨#[65]⟩,.int .i64 5]),(1,.agg #[.int .i64 1,.int .i64 1,.string ⟨#[66]⟩,.int .i64 7])]).run Tryz.prog w = .ok (.slice (some ⟨w.heap.size,0,none⟩) 2 2) (w.alloc (.cells ckC 50)):=by kernel_rfl
def AF (a:Array (Nat × Value)):Sem Value:=Instr.buildSlice 27 1 a
theorem zhJ (a:Array (Nat × Value)):Instr.buildSlice 27 1 a=AF a:=rfl
theorem zbc (s:ByteArray) (a:Option Addr) (n c:Nat) (w:World):(AF #[(0,.agg #[.string s,.slice a n c,.slice none 0 0])]).run Tryz.prog w = .ok (.slice (some ⟨w.heap.size,0,none⟩) 1 1) (w.alloc (.cells #[.string s,.slice a n c,.slice none 0 0] 78)):=by kernel_rfl
theorem zcb (a v b:Option Addr) (n c m d k l:Nat) (w:World):(lR #[(0,.slice a n c),(1,.agg #[.slice v m d,.slice none 0 0]),(2,.slice b k l)]).run Tryz.prog w = .ok (.agg #[.slice a n c,.slice v m d,.slice none 0 0,.slice b k l]) w:=by kernel_rfl
theorem zb9 (a v b:Option Addr) (n c m d k l:Nat) (w:World):(rf #[(0,.slice a n c),(1,.agg #[.slice v m d,.slice none 0 0]),(2,.slice b k l)]).run Tryz.prog w = .ok (.agg #[.slice a n c,.slice v m d,.slice none 0 0,.slice b k l]) w:=by kernel_rfl
theorem ziR (w:World) (g:Nat) (hg:w.heap.size=g):K.aD (w.alloc (.cells ckC 50)) (some ⟨g,0,none⟩) 2 2 [ck1,ck2]:=by
 subst hg;refine ⟨rfl,(fun h=>by cases h),fun ad h t ht=>?_,?_,(show (2:Nat) <= 3518437208883 by decide)⟩
 ·obtain rfl:=Option.some.inj h;have h1:=heap_alloc_new w (.cells ckC 50);have FB:t < 2:=ht;generalize w.alloc (.cells ckC 50)=W at h1 ⊢;generalize w.heap.size=g at h1 ⊢;clear h ht
  obtain rfl | rfl:t=0∨t=1:=by omega
  ·refine ⟨?_,?_,?_,?_⟩ <;> simp [Addr.add,World.cell?,h1,ckC,ck1]
  ·refine ⟨?_,?_,?_,?_⟩ <;> simp [Addr.add,World.cell?,h1,ckC,ck2]
 ·intro e he;rcases List.mem_cons.1 he with rfl | he
  ·exact (show (1:Nat) <= maxLen by decide)
  ·obtain rfl:=List.mem_singleton.1 he;exact (show (1:Nat) <= maxLen by decide)
theorem zfQ {w:World} {g:Nat} (h:K.aD w (some ⟨g,0,none⟩) 2 2 [ck1,ck2]):K.aD w (some ⟨g,4,none⟩) 1 1 [ck2]:=by
 refine ⟨rfl,(fun h=>by cases h),fun ad e t ht=>?_,fun e he=>h.2.2.2.1 e (List.mem_cons_of_mem _ he),(show (1:Nat) <= 3518437208883 by decide)⟩;obtain rfl:=Option.some.inj e;have Ga:t < 1:=ht
 obtain rfl:t=0:=by omega
 have h1:=h.2.2.1 ⟨g,0,none⟩ rfl 1 (by decide);exact h1
theorem zhA {f:Fc} (h1:f.es=[ck1,ck2]) (h2:f.p.P=gu):de f mx:=⟨⟨by decide,trivial⟩,fun r hr n=>by
 rw [h1,h2]
 match r,hr with
 | 0,_ =>
  show mem [⟨1,1⟩] n↔mem [⟨1,1⟩] n∨mem [⟨1,1⟩] n
  simp
 | 1,_ =>
  show mem [⟨1,1⟩] n↔mem [⟨1,1⟩] n∨mem [] n
  simp [mem]
 | 2,_ | 3,_ | 4,_ | 5,_ | 6,_ | 7,_ | 8,_ | 9,_ | 10,_ | 11,_ | 12,_ | 13,_ | 14,_ | 15,_ =>
  show mem [] n↔mem [] n∨mem [] n
  simp
 | n+16,h=>exact absurd h (by omega)⟩
theorem zhB:¬ gW ckQ:=fun h=>h 0 (by decide) 1 ((xN ckQ 0 (by decide) 1).2 ⟨by decide,by decide,.inl (by decide)⟩)
theorem zic (gq:Nat):ch (ckR gq):=⟨(show fH ⟨#[65]⟩=true by decide),(show mc ckQ from ⟨⟨by decide,trivial⟩,zhB⟩)⟩
theorem ziP {f:Fc} (gq:Nat) (h1:f.es=[ck1,ck2]) (h2:f.p.P=gu) (h3:f.rs=[ckR gq]) (h4:f.an=2) (h5:f.rn=1):ar f:=
 ⟨by rw [h1,h4];decide +kernel,by rw [h2];exact ⟨by decide,trivial⟩,by
  rw [h3,h5]
  exact (xy (L:=[ckR gq])).2 ⟨fun r hr=>by obtain rfl:=List.mem_singleton.1 hr;exact zic gq,List.pairwise_singleton _ _⟩⟩
theorem zhz {f s:Fc} (gq:Nat) (h1:f.es=[ck1,ck2]) (h2:f.p.P=gu) (h3:f.rs=[ckR gq]) (hs:s.es=[ck2]/\s.p.P=mx/\s.rs=[ckR gq]):StD f s:=by
 refine ⟨?_,by rw [hs.2.1];exact zhA h1 h2,fun r hr=>?_,?_⟩
 ·rw [hs.1,h1,h2,h3];have e1:¬ lvB gu [ckR gq] ck1=true:=(show ¬ lvB gu [ckR 0] ck1=true by decide +kernel);have e2:lvB gu [ckR gq] ck2=true:=(show lvB gu [ckR 0] ck2=true by decide +kernel);rw [List.filter_cons_of_neg e1,List.filter_cons_of_pos e2];rfl
 ·rw [hs.2.2] at hr;obtain rfl:=List.mem_singleton.1 hr;exact zic gq
 ·rw [hs.2.1,hs.2.2,h3];refine (List.filter_eq_self.2 fun y hy=>?_).symm;obtain rfl:=List.mem_singleton.1 hy;refine wN fun k=>?_;have:=zcL.1 k ⟨0,2,⟨#[]⟩,0⟩ (show inB ckQ ⟨0,2,⟨#[]⟩,0⟩=true by decide +kernel)
  revert this
  decide +kernel
theorem ziO {s h:Fc} (h1:s.es=[ck2]) (h2:s.p.P=mx) (hx:XpD s h):h.p.P=gu:=by
 obtain ⟨-,p,hp,C,hC,hq⟩:=hx;refine hq.unique (zT.2 (show ag gu from ⟨by decide,trivial⟩):af (aa gu) gu) fun r hr n=>?_;rw [(hC r hr).2 n,hp.2 r hr n,h2]
 show (mem (aa mx r) n/\¬ (mem (cq (s.es.map ae) r) n∨mem (aa pv0.P r) n))↔mem (aa gu r) n
 rw [h1]
 match r,hr with
 | 0,_ =>
  show (mem [⟨1,1⟩] n/\¬ (mem [] n∨mem [] n))↔mem [⟨1,1⟩] n
  simp [mem]
 | 1,_ =>
  show (mem [⟨1,1⟩] n/\¬ (mem [⟨1,1⟩] n∨mem [] n))↔mem [] n
  simp [mem]
 | 2,_ | 3,_ | 4,_ | 5,_ | 6,_ | 7,_ | 8,_ | 9,_ | 10,_ | 11,_ | 12,_ | 13,_ | 14,_ | 15,_ =>
  show (mem [] n/\¬ (mem [] n∨mem [] n))↔mem [] n
  simp [mem]
 | n+16,h=>exact absurd h (by omega)
attribute [local go_sem ↓] zf1 zcG yM zcH za1 zhJ xe
attribute [local go_sem] zbd zaj zak kM zeQ zbc zcb zb9
theorem zcs (w:World):Calls Tryz.prog 6 #[] w fun e w'=>e = .returned (.bool true)/\Below w.heap.size w w':=by
 obtain ⟨ge,p8⟩:∃ g,w.heap.size=g:=⟨_,rfl⟩;have lb:=zbd w;have S4:=ziR w ge p8;have b4:=ze w (.cells ckC 50)
 have z4:(w.alloc (.cells ckC 50)).heap.size=ge+1:=by simp [p8]
 obtain ⟨w4,pg⟩:∃ w4,w.alloc (.cells ckC 50)=w4:=⟨_,rfl⟩;rw [pg] at lb S4 b4 z4;rw [p8] at lb;have V5:=kE w4 3 #[.int .i64 1] [1] rfl (ge+1) 1 z4 rfl;have b5:=ze w4 (.cells #[.int .i64 1] 3)
 have z5:(w4.alloc (.cells #[.int .i64 1] 3)).heap.size=ge+2:=by simp [z4]
 obtain ⟨w5,rB⟩:∃ w5,w4.alloc (.cells #[.int .i64 1] 3)=w5:=⟨_,rfl⟩;rw [rB] at V5 b5 z5;have V6:=kE w5 3 #[.int .i64 2] [2] rfl (ge+2) 1 z5 rfl;have b6:=ze w5 (.cells #[.int .i64 2] 3)
 have z6:(w5.alloc (.cells #[.int .i64 2] 3)).heap.size=ge+3:=by simp [z5]
 obtain ⟨w6,Do⟩:∃ w6,w5.alloc (.cells #[.int .i64 2] 3)=w6:=⟨_,rfl⟩;rw [Do] at V6 b6 z6
 have R7:=ziu w6 78 #[.string ⟨#[65]⟩,.slice (some ⟨ge+2,0,none⟩) 1 1,.slice none 0 0] [ckR (ge+2)] rfl (ge+3) 1 z6 rfl (by decide) (fun r hr=>by
  obtain rfl:=List.mem_singleton.1 hr
  exact ⟨⟨V6,cR.empty _,(show (1:Nat) <= 17592186044415 by decide)⟩,(show (1:Nat) <= maxLen by decide)⟩)
 have b7:=ze w6 (.cells #[.string ⟨#[65]⟩,.slice (some ⟨ge+2,0,none⟩) 1 1,.slice none 0 0] 78);have lc:=zbc ⟨#[65]⟩ (some ⟨ge+2,0,none⟩) 1 1 w6;rw [z6] at lc
 have z7:(w6.alloc (.cells #[.string ⟨#[65]⟩,.slice (some ⟨ge+2,0,none⟩) 1 1,.slice none 0 0] 78)).heap.size=ge+4:=by simp [z6]
 obtain ⟨w7,pe⟩:∃ w7,w6.alloc (.cells #[.string ⟨#[65]⟩,.slice (some ⟨ge+2,0,none⟩) 1 1,.slice none 0 0] 78)=w7:=⟨_,rfl⟩;rw [pe] at R7 b7 z7 lc;have b57:=tmq b5 (b6.trans (b7.mono b6.size));have b67:=tmq b6 b7;obtain ⟨f,hf⟩:∃ f:Fc,f=⟨some ⟨ge,0,none⟩,2,2,[ck1,ck2],⟨some ⟨ge+1,0,none⟩,1,1,none,0,0,gu⟩,some ⟨ge+3,0,none⟩,1,1,[ckR (ge+2)]⟩:=⟨_,rfl⟩
 have F7:aU w7 f:=by rw [hf];exact ⟨S4.below b57,⟨V5.below b67,cR.empty _,(show (1:Nat) <= 17592186044415 by decide)⟩,R7⟩
 obtain ⟨w8,cd,X8,B8,-⟩:=sZ w7 f (ge+4) z7
 have pM:(oU (.pointer (some ⟨ge+4,0,none⟩)) (.agg #[.slice (some ⟨ge,0,none⟩) 2 2,.slice (some ⟨ge+1,0,none⟩) 1 1,.slice none 0 0,.slice (some ⟨ge+3,0,none⟩) 1 1])).run Tryz.prog (w7.alloc (.cells (FaC (mkF fz0)) 29)) = .ok () w8:=by rw [hf] at cd;exact cd
 have lf:=zW X8;have gf:=hide X8;have gA:=hide ((tmq b4 b57).trans (B8.mono (Nat.le_trans b4.size b57.size)));have HU:Hid (SwB 1 w8 f):=⟨F7.below B8,by rw [hf];exact ⟨Nat.le_refl _,fun h=>(by cases h)⟩,by rw [hf];exact (show (1:Nat) <= 1 * 209716 by decide),by rw [hf];exact (show (2:Nat) <= 1 * 1048576 by decide),by rw [hf];intro r hr;obtain rfl:=List.mem_singleton.1 hr;exact (show (0:Nat) <= 1048576 by decide)⟩;have HP:Hid (f.es=[ck1,ck2]/\f.p.P=gu/\f.rs=[ckR (ge+2)]/\ar f):=⟨by rw [hf],by rw [hf],by rw [hf],ziP (ge+2) (by rw [hf]) (by rw [hf]) (by rw [hf]) (by rw [hf]) (by rw [hf])⟩;have Jo:Hid (f=⟨some ⟨ge,0,none⟩,2,2,[ck1,ck2],⟨some ⟨ge+1,0,none⟩,1,1,none,0,0,gu⟩,some ⟨ge+3,0,none⟩,1,1,[ckR (ge+2)]⟩):=hf;clear S4 b4 V5 b5 V6 b6 R7 b7 b57 b67 F7 X8 B8 cd hf;go_enter Tryz.func6,Tryz.ntmps6
 go_wp2_with fail;clear lb lc pg rB Do pe z4 z5 z6 z7 pM lf p8;refine (yG 1 (by decide) f _ HU).mono ?_;rintro e v3 ⟨s,er,rfl,Ss,b3,hs⟩
 obtain ⟨rfl,hS⟩:er=0/\StD f s:=by
  rcases hs with ⟨h,-⟩ | ⟨-,h,k⟩
  ·exact absurd HP.2.2.2 h
  ·exact ⟨h,k⟩
 obtain ⟨gs,ph⟩:∃ g,v3.heap.size=g:=⟨_,rfl⟩;obtain ⟨w3,cd,X3,B3,-⟩:=lC v3 s gs ph;have b33:=tmq b3 B3;have aw:=wTr gA b33;have dh:=hide (gf.below b33);have tV:=hide X3;have mW:=hide (Ss.below B3);have I6:=hide hS;have Gb:=hide (HU.below b33);clear Ss b3 hs hS X3 B3 b33;obtain ⟨g,hg⟩:∃ g,ge+4=g:=⟨_,rfl⟩;obtain ⟨gr,BQ⟩:∃ g,ge+3=g:=⟨_,rfl⟩;obtain ⟨gq,GS⟩:∃ g,ge+2=g:=⟨_,rfl⟩;rw [BQ,GS] at Jo;rw [hg] at dh;rw [GS] at HP
 have rY:Hid (SwB 1 w3 ⟨some ⟨ge,0,none⟩,2,2,[ck1,ck2],⟨some ⟨ge+1,0,none⟩,1,1,none,0,0,gu⟩,some ⟨gr,0,none⟩,1,1,[ckR gq]⟩):=by have:=Gb.out;rw [Jo.out] at this;exact this
 have aB:Hid (∀ W,Below w3.heap.size w3 W -> W.cell? ⟨g,0,none⟩=some (.slice (some ⟨ge,0,none⟩) 2 2)/\W.cell? ⟨g,3,none⟩=some (.slice (some ⟨gr,0,none⟩) 1 1)):=fun W h=>by
  have h1:=(dh.below h).cs;rw [Jo.out] at h1;exact h1
 rw [hg];clear hg BQ GS gf HU;go_upto_region 3 with fail;clear cd ph
 go_cut [4] from 6 to 64 (fun u wx=>∃ (gw:Nat) (S:Fc),u = .pointer (some ⟨gw,0,none⟩)/\Hid (aG wx gw (mkF S)/\SwB 1 wx S/\Below w3.heap.size w3 wx)/\Hid (S.es=[ck2]/\S.p.P=mx/\S.rs=[ckR gq]))
 case first =>
  obtain ⟨v0,nZ⟩:∃ v,w3.drew=v:=⟨_,rfl⟩
  have H0:Hid (Below w3.heap.size w3 v0):=by rw [<- nZ];exact zf w3
  refine wp_region_held_drew (S:=fun W=>W.cell? ⟨g,0,none⟩=some (.slice (some ⟨ge,0,none⟩) 2 2)/\W.cell? ⟨g,3,none⟩=some (.slice (some ⟨gr,0,none⟩) 1 1)) (by kernel_rfl) (aB.out _ (zf w3)) (fun hHeld=>?_);rw [nZ] at hHeld ⊢;clear nZ;refine wU 0 ?_;refine wU 1 ?_;refine wU 2 ?_;refine wU 5 ?_;refine wU 6 ?_;refine wpAnyH_ready (rs:=[3,8]) (by kernel_rfl) (by simp) ?_;refine AllReadyH.cons rfl (fun K hK=>?_) (AllReadyH.cons rfl (fun K hK=>?_) AllReadyH.nil)
  ·have bI:=ze v0 (.cells #[.int .i64 1,.int .i64 1] 3);obtain ⟨gi,tC⟩:∃ g,v0.heap.size=g:=⟨_,rfl⟩;have VI:=kE v0 3 #[.int .i64 1,.int .i64 1] [1,1] rfl gi 2 tC rfl;obtain ⟨v1,BT⟩:∃ v,v0.alloc (.cells #[.int .i64 1,.int .i64 1] 3)=v:=⟨_,rfl⟩;go_simp;rw [BT] at bI VI;have H1:Hid (Below w3.heap.size w3 v1):=tmq H0 bI;have VS1:=hide VI
   try rw [BT]
   try rw [tC]
   refine hK.out _ _ (aB.out _ H1) (fun hHeld=>?_);clear hK K;clear bI VI BT tC;refine wU 4 ?_;refine wU 7 ?_;refine wR 8 fun K hK=>?_;have bW:=ze v1 (.cells (FaC (mkF fz0)) 31);obtain ⟨gw,uf⟩:∃ g,v1.heap.size=g:=⟨_,rfl⟩;have XB:=qs v1 (mkF fz0)
   have GC:Hid (w3.heap.size <= gw):=by rw [<- uf];exact H1.size
   obtain ⟨v2,tu⟩:∃ v,v1.alloc (.cells (FaC (mkF fz0)) 31)=v:=⟨_,rfl⟩;go_simp;rw [tu] at bW XB;rw [uf] at XB;have H2:Hid (Below w3.heap.size w3 v2):=tmq H1 bW;have XW:=hide XB;have VS2:Hid (V.Src v2 (some ⟨gi,0,none⟩) 2 2 [1,1]):=VS1.out.below bW
   try rw [tu]
   try rw [uf]
   refine hK.out _ _ (aB.out _ H2) (fun hHeld=>?_);clear hK K;clear bW XB tu uf;obtain ⟨S,hS⟩:∃ S:Fc,S=⟨some ⟨ge,4,none⟩,1,1,[ck2],⟨some ⟨gi,0,none⟩,2,2,none,0,0,mx⟩,some ⟨gr,0,none⟩,1,1,[ckR gq]⟩:=⟨_,rfl⟩;have st:=xJ (m':=mkF S) XW.out
   have HJ:Hid (aG (v2.setRow gw (FaC (mkF S))) gw (mkF S)/\SwB 1 (v2.setRow gw (FaC (mkF S))) S/\Below w3.heap.size w3 (v2.setRow gw (FaC (mkF S)))):=by
    have h0:=rY.below H2.out;have h1:K.aD v2 (some ⟨ge,4,none⟩) 1 1 [ck2]:=zfQ h0.ok.es
    have h2:aU v2 S:=by rw [hS];exact ⟨h1,⟨VS2.out,cR.empty _,(show (2:Nat) <= 17592186044415 by decide)⟩,h0.ok.rs⟩
    refine ⟨XW.setRow,(show SwB 1 v2 S from ⟨h2,?_,?_,?_,?_⟩).offWc XW.out _,zh H2.out GC⟩
    ·rw [hS];exact ⟨Nat.le_refl _,fun h=>(by cases h)⟩
    ·rw [hS];exact (show (1:Nat) <= 1 * 209716 by decide)
    ·rw [hS];exact (show (1:Nat) <= 1 * 1048576 by decide)
    ·rw [hS];intro r hr;obtain rfl:=List.mem_singleton.1 hr;exact (show (0:Nat) <= 1048576 by decide)
   have mR:Hid (S.es=[ck2]/\S.p.P=mx/\S.rs=[ckR gq]):=by rw [hS];exact ⟨rfl,rfl,rfl⟩
   replace st:(oZ (.pointer (some ⟨gw,0,none⟩)) (.agg #[.slice (some ⟨ge,4,none⟩) 1 1,.slice (some ⟨gi,0,none⟩) 2 2,.slice none 0 0,.slice (some ⟨gr,0,none⟩) 1 1])).run Tryz.prog v2 = .ok () (v2.setRow gw (FaC (mkF S))):=by rw [hS] at st ⊢;exact st
   clear hS;refine wR 9 fun K hK=>?_;go_simp;refine hK.out _ _ (aB.out _ HJ.2.2) (fun hHeld=>?_);clear hK K;clear st;refine wD ?_ _;clear hHeld;go_wp2_with fail;go_meet;exact ⟨gw,S,rfl,HJ,mR⟩
  ·have bW:=ze v0 (.cells (FaC (mkF fz0)) 31);obtain ⟨gw,uf⟩:∃ g,v0.heap.size=g:=⟨_,rfl⟩;have XB:=qs v0 (mkF fz0)
   have GC:Hid (w3.heap.size <= gw):=by rw [<- uf];exact H0.size
   obtain ⟨v1,BT⟩:∃ v,v0.alloc (.cells (FaC (mkF fz0)) 31)=v:=⟨_,rfl⟩;go_simp;rw [BT] at bW XB;rw [uf] at XB;have H1:Hid (Below w3.heap.size w3 v1):=tmq H0 bW;have XW0:=hide XB
   try rw [BT]
   try rw [uf]
   refine hK.out _ _ (aB.out _ H1) (fun hHeld=>?_);clear hK K;clear bW XB BT uf;refine wR 3 fun K hK=>?_;have bI:=ze v1 (.cells #[.int .i64 1,.int .i64 1] 3);obtain ⟨gi,tC⟩:∃ g,v1.heap.size=g:=⟨_,rfl⟩;have VI:=kE v1 3 #[.int .i64 1,.int .i64 1] [1,1] rfl gi 2 tC rfl;obtain ⟨v2,tu⟩:∃ v,v1.alloc (.cells #[.int .i64 1,.int .i64 1] 3)=v:=⟨_,rfl⟩;go_simp;rw [tu] at bI VI;have H2:Hid (Below w3.heap.size w3 v2):=tmq H1 bI;have VS2:=hide VI;have XW:Hid (aG v2 gw (mkF fz0)):=XW0.out.below bI
   try rw [tu]
   try rw [tC]
   refine hK.out _ _ (aB.out _ H2) (fun hHeld=>?_);clear hK K;clear bI VI tu tC;refine wU 4 ?_;refine wU 7 ?_;obtain ⟨S,hS⟩:∃ S:Fc,S=⟨some ⟨ge,4,none⟩,1,1,[ck2],⟨some ⟨gi,0,none⟩,2,2,none,0,0,mx⟩,some ⟨gr,0,none⟩,1,1,[ckR gq]⟩:=⟨_,rfl⟩;have st:=xJ (m':=mkF S) XW.out
   have HJ:Hid (aG (v2.setRow gw (FaC (mkF S))) gw (mkF S)/\SwB 1 (v2.setRow gw (FaC (mkF S))) S/\Below w3.heap.size w3 (v2.setRow gw (FaC (mkF S)))):=by
    have h0:=rY.below H2.out;have h1:K.aD v2 (some ⟨ge,4,none⟩) 1 1 [ck2]:=zfQ h0.ok.es
    have h2:aU v2 S:=by rw [hS];exact ⟨h1,⟨VS2.out,cR.empty _,(show (2:Nat) <= 17592186044415 by decide)⟩,h0.ok.rs⟩
    refine ⟨XW.setRow,(show SwB 1 v2 S from ⟨h2,?_,?_,?_,?_⟩).offWc XW.out _,zh H2.out GC⟩
    ·rw [hS];exact ⟨Nat.le_refl _,fun h=>(by cases h)⟩
    ·rw [hS];exact (show (1:Nat) <= 1 * 209716 by decide)
    ·rw [hS];exact (show (1:Nat) <= 1 * 1048576 by decide)
    ·rw [hS];intro r hr;obtain rfl:=List.mem_singleton.1 hr;exact (show (0:Nat) <= 1048576 by decide)
   have mR:Hid (S.es=[ck2]/\S.p.P=mx/\S.rs=[ckR gq]):=by rw [hS];exact ⟨rfl,rfl,rfl⟩
   replace st:(oZ (.pointer (some ⟨gw,0,none⟩)) (.agg #[.slice (some ⟨ge,4,none⟩) 1 1,.slice (some ⟨gi,0,none⟩) 2 2,.slice none 0 0,.slice (some ⟨gr,0,none⟩) 1 1])).run Tryz.prog v2 = .ok () (v2.setRow gw (FaC (mkF S))):=by rw [hS] at st ⊢;exact st
   clear hS;refine wR 9 fun K hK=>?_;go_simp;refine hK.out _ _ (aB.out _ HJ.2.2) (fun hHeld=>?_);clear hK K;clear st;refine wD ?_ _;clear hHeld;go_wp2_with fail;go_meet;exact ⟨gw,S,rfl,HJ,mR⟩
 case rest =>
  obtain ⟨gw,S,rfl,HJ,mR⟩:=hcut
  rename World=>wa
  have Gs:Hid (StD f S):=zhz gq HP.1 HP.2.1 HP.2.2.1 mR.out;have AW:Hid (aQ S):=ziq HJ.2.1.ok Gb.ok.es.1 Gb.ok.rs.len HP.2.2.2 Gs.out;have l0:=qt (tV.below HJ.2.2);have l1:=qt HJ.1;go_wp2_with fail;clear l0 l1;refine (zaa s S _ (mW.below HJ.2.2).ok HJ.2.1.ok (wRq I6.out Gs)).mono ?_;rintro e wb ⟨rfl,bb⟩;have tW:=hide (HJ.2.2.trans (bb.mono HJ.2.2.size));have KI:=hide (HJ.1.below bb);have CV:=hide (HJ.2.1.below bb);clear bb;have l0:=zW (dh.below tW);have l1:=qt KI.out;go_wp2_with fail;clear l0 l1;refine (zeo 1 1 (by decide) f S _ (Gb.below tW) CV.out HP.2.2.2 AW.out Gs).mono ?_;rintro e wc ⟨rfl,bc⟩;have Gx:=wTr tW bc;have l1:=qt (KI.below bc);have CX:=hide (CV.below bc)
  clear bc;go_wp2_with fail;clear l1;refine (zcC 1 (by decide) S _ CX.out AW).mono ?_;rintro e vd ⟨h,rfl,Fh,bd,hx⟩;obtain ⟨gh,La⟩:∃ g,vd.heap.size=g:=⟨_,rfl⟩;obtain ⟨wd,cd,Xd,Bd,-⟩:=sZ vd h gh La;have bdd:=tmq bd Bd;have gZ:=wTr Gx bdd;have Mz:=hide (Fh.below Bd);have L0:=hide Xd
  have Mx:h.an=1:=by rw [<- Fh.es.1,hx.1,mR.1];rfl
  have LT:Hid (h.p.P=gu):=ziO mR.1 mR.2.1 hx;have c0:=Xd.cs.1;rw [Mx] at c0;have lp:=zj L0.past;have zd:wd.heap.size=wd.heap.size:=rfl;have VI:=kE wd 3 #[.int .i64 1] [1] rfl wd.heap.size 1 rfl rfl;have bI:=ze wd (.cells #[.int .i64 1] 3);obtain ⟨gi,tC⟩:∃ g,wd.heap.size=g:=⟨_,rfl⟩;rw [tC] at VI;obtain ⟨wi,Li⟩:∃ v,wd.alloc (.cells #[.int .i64 1] 3)=v:=⟨_,rfl⟩;rw [Li] at VI bI;have HQ:Hid (am wi ⟨some ⟨gi,0,none⟩,1,1,none,0,0,gu⟩):=⟨VI,cR.empty _,(show (1:Nat) <= 17592186044415 by decide)⟩;have LU:=hide (Mz.below bI);have LD:=wTr gZ bI;clear Fh bd hx Xd Bd bdd VI bI zd;go_wp2_with fail;clear c0 lp cd La Li tC;refine (jg h.p ⟨some ⟨gi,0,none⟩,1,1,none,0,0,gu⟩ _ LU.p HQ).mono ?_;rintro e we ⟨x,rfl,hx,be⟩;obtain rfl:x=true:=hx.2 LT.out
  have HE:=hide (tmq aw (LD.trans (be.mono LD.size)));clear hx be;go_wp2_with fail;go_ret;exact ⟨rfl,HE.out⟩
end
end Go.Proofs.YtjffpimfngdggaaGreat
