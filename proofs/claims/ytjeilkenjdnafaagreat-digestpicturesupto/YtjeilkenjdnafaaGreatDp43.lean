/- YDf YDk SXa PVw LView TVf SXt YDh -/
import Derived.Test.YtjeilkenjdnafaaGreatTk
import Derived.Test.YtjeilkenjdnafaaGreatDp42
import Derived.Test.YtjeilkenjdnafaaGreatDp41
import Derived.Test.YtjeilkenjdnafaaGreatDp21
import Derived.Test.YtjeilkenjdnafaaGreatDp38
import Derived.Test.YtjeilkenjdnafaaGreatDp27
import Derived.Test.YtjeilkenjdnafaaGreatDp00
import Derived.ProofKit
import Derived.OpenShut
import Derived.Lib.SmallJoins
import Derived.HandedShaped
import Derived.SizedLaws
import Derived.ChangeMaps5
import Derived.JoinedCond
import Derived.Test.YtjeilkenjdnafaaGreatDp15
import Derived.Test.YtjeilkenjdnafaaGreatDp39
set_option maxRecDepth 100000
set_option maxHeartbeats 6400000
namespace Go.Proofs.YtjeilkenjdnafaaGreat
section
open Go.RowKit
def LfD (f:Fc) (d:Dg) (l:Fc):Prop:=l.es=(liveF f).filter (pkB d.h.P false)/\∃ H,HeardOf f H/\InForm l.p.P/\(∀ e,inB l.p.P e=true↔goneE (liveF f) H d e)/\WtOf f.rs H l.rs
def LfR (f:Fc) (d:Dg) (l:Fc) (er:Int):Prop:=(¬ (FormF f/\FormD d.h.P d.l.P)/\er=1/\l=fz0)∨((FormF f/\FormD d.h.P d.l.P)/\er=0/\LfD f d l)
def LfE (N:Nat) (w w':World) (x:Ending) (f:Fc) (d:Dg):Prop:=∃ l er,x = .returned (.tuple #[FaV (mkF l),.int .i64 er])/\SwB N w' l/\Below w.heap.size w w'/\LfR f d l er
theorem boxFDF (w:World) (s:Fc) (d:Dg):∃ wk,((w.alloc (.cells (FaC (mkF s)) 29)).alloc (.cells (DiC (mkD d)) 33)).alloc (.cells (FaC (mkF fz0)) 29)=wk/\Hid (FaBox wk w.heap.size (mkF s))/\Hid (DiBox wk (w.heap.size+1) (mkD d))/\Hid (FaBox wk (w.heap.size+2) (mkF fz0))/\Hid (Below w.heap.size w wk):=by
 have b1:=below_new w (.cells (FaC (mkF s)) 29);have b2:=below_new (w.alloc (.cells (FaC (mkF s)) 29)) (.cells (DiC (mkD d)) 33);have X2:=DiBox_new (w.alloc (.cells (FaC (mkF s)) 29)) (mkD d);have b3:=below_new ((w.alloc (.cells (FaC (mkF s)) 29)).alloc (.cells (DiC (mkD d)) 33)) (.cells (FaC (mkF fz0)) 29);have X3:=FaBox_new ((w.alloc (.cells (FaC (mkF s)) 29)).alloc (.cells (DiC (mkD d)) 33)) (mkF fz0);have B2:=b1.trans (b2.mono b1.size);rw [World.size_alloc] at X2;rw [World.size_alloc,World.size_alloc] at X3;exact ⟨_,rfl,((FaBox_new w (mkF s)).below b2).below b3,X2.below b3,X3,B2.trans (b3.mono B2.size)⟩
attribute [local go_sem ↓] ldP_eq stP_eq ldDi_eq stDi_eq ldFa_eq stFa_eq bldF_eq
attribute [local go_sem] cells_PV PC_size zero_PC cells_DiV DiC_size cells_FaV FaC_size zero_FaZ run_bldF0 run_bldFx
theorem lackFacts_any (N:Nat) (hN:N <= 4) (s:Fc) (d:Dg) (w:World) (hS:SwB N w s) (hd:DgOk w d):Calls Tryz.prog 18 #[FaV (mkF s),DiV (mkD d)] w fun e w'=>LfE N w w' e s d:=by
 obtain ⟨wk,hwk,HX,HD,HZ,HBK⟩:=boxFDF w s d;obtain ⟨G,hG0⟩:∃ G,w.heap.size=G:=⟨_,rfl⟩;rw [hG0] at HX HD HZ;have HGs:Hid (w.heap.size=G):=hG0;have HS:=hide (hS.below HBK.out);have HU:=hide ((hS.below HBK.out).u hN);have HO:=hide (hd.below HBK.out);have HBad:Hid (∀ W,Below wk.heap.size wk W -> ¬ (FormF s/\FormD d.h.P d.l.P) -> LfE N w (W.setRow (G+2) (FaC (mkF fz0))) (.returned (.tuple #[FaV (mkF fz0),.int .i64 1])) s d):=fun W h k=>⟨fz0,1,rfl,fz0_b N _,below_setRow (HBK.out.trans (h.mono HBK.out.size)) (by rw [HGs.out];omega),.inl ⟨k,rfl,rfl⟩⟩;clear hS hd;have l0:=run_ldFa HX.out;go_enter Tryz.func18,Tryz.ntmps18;go_wp2_with fail;clear hwk hG0 l0;refine (tPast_any s _ HU.out.ok).mono ?_;rintro e v3 ⟨p,er,rfl,Sp,-,b3,hp⟩;obtain ⟨g4,hg4⟩:∃ g,v3.heap.size=g:=⟨_,rfl⟩;obtain ⟨w3,hst,X3,B3,-⟩:=madeP v3 p g4 hg4
 have b33:=b3.trans (B3.mono b3.size);have HB3:=hide b33;have HXp:=hide X3;have HSp:=hide (Sp.below B3);have HP:=hide (ps_heard hp);have A3:=HZ.out.below b33;clear Sp b3 hp X3 B3 b33;rcases HP.out with ⟨h1,rfl,-⟩ | ⟨h1,rfl,h2⟩
 ·have st:=run_stFa (m':=mkF fz0) A3;have HE1:Hid (FaBox (w3.setRow (G+2) (FaC (mkF fz0))) (G+2) (mkF fz0)):=A3.setRow;have HE:=hide (HBad.out _ HB3.out fun h=>h1 h.1);clear h1 A3 HP;go_wp2_with fail;clear st hst hg4;refine bodyPost_ret (res2Fb rfl rfl rfl HE1.out) rfl ?_;exact HE.out
 have HFs:=hide h1;have HH:=hide h2;have HZ3:=hide A3;have l0:=run_ldDi (HD.out.below HB3.out);clear h1 h2 A3 HP;go_wp2_with fail;clear l0 hst hg4;refine (dcheck_any d _ (HO.out.below HB3.out)).mono ?_;rintro e w4 ⟨z,rfl,hz,b4⟩;have HB4:=wTr HB3 b4;have HXp4:=hide (HXp.out.below b4);have HSp4:=hide (HSp.out.below b4);have A4:=HZ3.out.below b4;clear b4 HXp HSp;rcases hz with ⟨rfl,hfd⟩ | ⟨rfl,hfd⟩
 ·have st:=run_stFa (m':=mkF fz0) A4;have HE1:Hid (FaBox (w4.setRow (G+2) (FaC (mkF fz0))) (G+2) (mkF fz0)):=A4.setRow;have HE:=hide (HBad.out _ HB4.out fun h=>hfd h.2);clear hfd A4;go_wp2_with fail;clear st;refine bodyPost_ret (res2Fb rfl rfl rfl HE1.out) rfl ?_;exact HE.out
 have HFd:=hide hfd;have HZ4:=hide A4;have l0:=run_ldFa (HX.out.below HB4.out);clear hfd A4 HBad;go_wp2_with fail;clear l0;refine (tLive_any s _ (HU.out.ok.below HB4.out) HU.out.wt HU.out.nm).mono ?_;rintro e w5 hL;obtain ⟨lo,ln,lc,rfl,SL,b5,-⟩:K.GivesEE w4 w5 e (liveF s) 0:=hL.elim (fun h=>by have:=h.2;rwa [live_L] at this) fun h=>absurd HFs.out h.1;have HB5:=wTr HB4 b5;have HSL:=hide SL;have HXp5:=hide (HXp4.out.below b5);have HSp5:=hide (HSp4.out.below b5)
 have HCl:Hid (K.chk (liveF s)=0):=by
  show _=_
  unfold liveF;exact chk_filter ((chk_okS HS.out.ok.es.1).2 HFs.out.1) _
 have lp:=run_ldP HXp5.out.at
 have l0:=run_ldDi (HD.out.below HB5.out);clear hL SL b5 HXp4 HSp4;go_wp2_with fail;clear lp l0;refine (lack_any lo ln lc (liveF s) p d _ HSL.out HCl.out HSp5.out (HO.out.below HB5.out) HFd.out.1).mono ?_;rintro e v6 ⟨no,nn,nc,Nw,q,rfl,SN,Sq,b6,hN1,hQf,hQ⟩;obtain ⟨gq,hgq⟩:∃ g,v6.heap.size=g:=⟨_,rfl⟩;obtain ⟨w6,hst,X6,B6,-⟩:=madeP v6 q gq hgq;have b66:=b6.trans (B6.mono b6.size);have HB6:=wTr HB5 b66;have HXq:=hide X6;have HSq:=hide (Sq.below B6);have HSN:=hide (SN.below B6);have HXp6:=hide (HXp5.out.below b66);have HSp6:=hide (HSp5.out.below b66);have HNw:=hide hN1;have HQf:=hide hQf;have HQ:=hide hQ;clear SN Sq b6 hN1 hQf hQ X6 B6 b66 HXp5 HSp5 HSL;have c3:=(HX.out.below HB6.out).cs.2
 have lp:=run_ldP HXp6.out.at
 go_wp2_with fail;clear c3 lp hst hgq;refine (keepWaits_any s.ro s.rn s.rc s.rs p _ ((HS.out.ok.row HS.out.row).below HB6.out) HSp6.out (by have:=HU.out.rn;omega)).mono ?_;rintro e w7 (⟨-,-,⟨fo,fn,fc⟩,F,rfl,GF,nF,WF⟩ | ⟨hno,-,-⟩);rotate_left
 ·exact absurd ⟨HFs.out.2.2,HH.out.1⟩ hno
 rw [show HsV ⟨fo,fn,fc⟩=Value.slice fo fn fc from rfl];have HB7:=wTr HB6 GF.below;have HGF:Hid (RcS w7 fo fn fc F/\fn <= fc/\(fo=none -> fc=0)/\fn <= s.rn/\WtOf s.rs p.P F):=⟨GF.src,GF.room,GF.nil,nF,WF⟩;have HXq7:=hide (HXq.out.below GF.below);have HSq7:=hide (HSq.out.below GF.below);have HSN7:=hide (HSN.out.below GF.below);clear GF nF WF HXp6 HSp6 HXq HSq HSN;have A9:=HZ.out.below HB7.out;have st:=run_stFa (m':=mkF ⟨no,nn,nc,Nw,q,fo,fn,fc,F⟩) A9;have HE1:Hid (FaBox (w7.setRow (G+2) (FaC (mkF ⟨no,nn,nc,Nw,q,fo,fn,fc,F⟩))) (G+2) (mkF ⟨no,nn,nc,Nw,q,fo,fn,fc,F⟩)):=A9.setRow
 have HE:Hid (LfE N w (w7.setRow (G+2) (FaC (mkF ⟨no,nn,nc,Nw,q,fo,fn,fc,F⟩))) (.returned (.tuple #[FaV (mkF ⟨no,nn,nc,Nw,q,fo,fn,fc,F⟩),.int .i64 0])) s d):=
  ⟨⟨no,nn,nc,Nw,q,fo,fn,fc,F⟩,0,rfl,⟨FcOk.offF (f:=⟨no,nn,nc,Nw,q,fo,fn,fc,F⟩) ⟨HSN7.out,HSq7.out,HGF.out.1⟩ A9 _,⟨HGF.out.2.1,HGF.out.2.2.1⟩,Nat.le_trans HGF.out.2.2.2.1 HS.out.rn,by
    show nn <= N * 1048576
    have h1:nn=Nw.length:=HSN7.out.1.symm
    have h2:Nw.length <= s.es.length:=by
     rw [HNw.out];unfold liveF;exact Nat.le_trans (List.length_filter_le _ _) (List.length_filter_le _ _)
    have h3:=HS.out.ok.es.1;have h4:=HS.out.an
    omega,wt_clF HGF.out.2.2.2.2 HS.out.cl⟩,below_setRow (HBK.out.trans (HB7.out.mono HBK.out.size)) (by rw [HGs.out];omega),
   .inr ⟨⟨HFs.out,HFd.out⟩,rfl,HNw.out,p.P,HH.out,HQf.out,HQ.out,HGF.out.2.2.2.2⟩⟩
 have st2:(stFa (.pointer (some ⟨G+2,0,none⟩)) (.agg (FaC (mkF ⟨no,nn,nc,[],q,fo,fn,fc,[]⟩)))).run Tryz.prog w7 = .ok () (w7.setRow (G+2) (FaC (mkF ⟨no,nn,nc,Nw,q,fo,fn,fc,F⟩))):=st
 have lq:=run_ldP HXq7.out.at
 clear A9 st;go_wp2_with fail;clear st2 lq;refine bodyPost_ret (res2Fb rfl rfl rfl HE1.out) rfl ?_;exact HE.out
end
section
open Go.RowKit
def dk1:K.En:=⟨0,1,⟨#[65]⟩,5⟩
def dk2:K.En:=⟨0,2,⟨#[65]⟩,6⟩
def dkP:Pst:=⟨[1,1],[]⟩
def dkH:Pst:=⟨[2,1],[]⟩
def dkL:Pst:=⟨[],[⟨0,2,2⟩]⟩
def dkC:Array Value:=#[.int .i64 0,.int .i64 1,.string ⟨#[65]⟩,.int .i64 5,.int .i64 0,.int .i64 2,.string ⟨#[65]⟩,.int .i64 6]
def bsE2 (a:Array (Nat × Value)):Sem Value:=Instr.buildSlice 22 2 a
theorem bsE2_eq (a:Array (Nat × Value)):Instr.buildSlice 22 2 a=bsE2 a:=rfl
theorem run_bsE2 (w:World):(bsE2 #[(0,.agg #[.int .i64 0,.int .i64 1,.string ⟨#[65]⟩,.int .i64 5]),(1,.agg #[.int .i64 0,.int .i64 2,.string ⟨#[65]⟩,.int .i64 6])]).run Tryz.prog w = .ok (.slice (some ⟨w.heap.size,0,none⟩) 2 2) (w.alloc (.cells dkC 57)):=by kernel_rfl
theorem run_bldF01 (a v:Option Addr) (n c m d:Nat) (w:World):(bldF #[(0,.slice a n c),(1,.agg #[.slice v m d,.slice none 0 0])]).run Tryz.prog w = .ok (.agg #[.slice a n c,.slice v m d,.slice none 0 0,.slice none 0 0]) w:=by kernel_rfl
theorem dkC_src (w:World) (g:Nat) (hg:w.heap.size=g):K.ESrc (w.alloc (.cells dkC 57)) (some ⟨g,0,none⟩) 2 2 [dk1,dk2]:=by
 subst hg;refine ⟨rfl,(fun h=>by cases h),fun ad h t ht=>?_,?_,(show (2:Nat) <= 3518437208883 by decide)⟩
 ·obtain rfl:=Option.some.inj h;have h1:=heap_alloc_new w (.cells dkC 57);have ht2:t < 2:=ht;generalize w.alloc (.cells dkC 57)=W at h1 ⊢;generalize w.heap.size=g at h1 ⊢;clear h ht
  obtain rfl | rfl:t=0∨t=1:=by omega
  ·refine ⟨?_,?_,?_,?_⟩ <;> simp [Addr.add,World.cell?,h1,dkC,dk1]
  ·refine ⟨?_,?_,?_,?_⟩ <;> simp [Addr.add,World.cell?,h1,dkC,dk2]
 ·intro e he;rcases List.mem_cons.1 he with rfl | he
  ·exact (show (1:Nat) <= maxLen by decide)
  ·obtain rfl:=List.mem_singleton.1 he;exact (show (1:Nat) <= maxLen by decide)
theorem madeFx (w:World) (m:Fc) (g:Nat) (hg:w.heap.size=g):∃ w':World,(stFa (.pointer (some ⟨g,0,none⟩)) (.agg (FaC (mkF m)))).run Tryz.prog (w.alloc (.cells (FaC (mkF fz0)) 29)) = .ok () w'/\FaBox w' g (mkF m)/\Below w.heap.size w w'/\w'.heap.size=w.heap.size+1:=by
 subst hg;exact ⟨_,run_stFa (FaBox_new w _),(FaBox_new w _).setRow,below_setRow (below_new w _) (Nat.le_refl _),by simp [World.setRow]⟩
theorem madeDx14 (w:World) (m:Dg) (g:Nat) (hg:w.heap.size=g):∃ w':World,(stDi (.pointer (some ⟨g,0,none⟩)) (.agg (DiC (mkD m)))).run Tryz.prog (w.alloc (.cells (FaC (mkF fz0)) 33)) = .ok () w'/\DiBox w' g (mkD m)/\Below w.heap.size w w'/\w'.heap.size=w.heap.size+1:=by
 subst hg;have A:DiBox (w.alloc (.cells (FaC (mkF fz0)) 33)) w.heap.size (mkD dz0):=DiBox_new w (mkD dz0);exact ⟨_,run_stDi A,A.setRow,below_setRow (below_new w _) (Nat.le_refl _),by simp [World.setRow]⟩
theorem dk_heard {f:Fc} (h1:f.es=[dk1,dk2]) (h2:f.p.P=dkP):HeardOf f dkH:=⟨⟨by decide,trivial⟩,fun r hr n=>by
 rw [h1,h2]
 match r,hr with
 | 0,_ =>
  show mem [⟨1,2⟩] n↔mem [⟨1,1⟩,⟨2,2⟩] n∨mem [⟨1,1⟩] n
  unfold mem;simp;omega
 | 1,_ =>
  show mem [⟨1,1⟩] n↔mem [] n∨mem [⟨1,1⟩] n
  simp [mem]
 | 2,_ | 3,_ | 4,_ | 5,_ | 6,_ | 7,_ | 8,_ | 9,_ | 10,_ | 11,_ | 12,_ | 13,_ | 14,_ | 15,_ =>
  show mem [] n↔mem [] n∨mem [] n
  simp
 | n+16,h=>exact absurd h (by omega)⟩
theorem dk_lform:InForm dkL:=⟨by decide,⟨⟨by decide,by decide,by decide,by decide,by decide,by decide⟩,trivial⟩⟩
theorem dk_lruns:∀ r,r < 16 -> runsAt dkL r=dotsG ([dk2].map dotOf) r:=fun r hr=>match r,hr with
 | 0,_=>rfl | 1,_=>rfl | 2,_=>rfl | 3,_=>rfl | 4,_=>rfl | 5,_=>rfl | 6,_=>rfl | 7,_=>rfl | 8,_=>rfl | 9,_=>rfl | 10,_=>rfl | 11,_=>rfl | 12,_=>rfl | 13,_=>rfl | 14,_=>rfl | 15,_=>rfl
 | n+16,h=>absurd h (by omega)
theorem dk_live {f:Fc} (h1:f.es=[dk1,dk2]) (h2:f.p.P=dkP) (h3:f.rs=[]):CanonOf (dotsG ((liveF f).map dotOf)) dkL:=by
 have e:liveF f=[dk2]:=by
  unfold liveF;rw [h1,h2,h3,List.filter_cons_of_neg (by decide +kernel),List.filter_cons_of_pos (by decide +kernel)];rfl
 rw [e];obtain ⟨N,hN,hp⟩:=(canon_iff.2 dk_lform:CanonOf (runsAt dkL) dkL);exact ⟨N,fun r hr=>by rw [<- dk_lruns r hr];exact hN r hr,hp⟩
theorem dk_form {f:Fc} (h1:f.es=[dk1,dk2]) (h2:f.p.P=dkP) (h3:f.rs=[]) (h4:f.an=2) (h5:f.rn=0):FormF f:=
 ⟨by rw [h1,h4];decide +kernel,by rw [h2];exact ⟨by decide,trivial⟩,by rw [h3,h5];intro j hj;omega⟩
attribute [local go_sem ↓] ldP_eq stP_eq ldFa_eq stFa_eq ldDi_eq stDi_eq bldF_eq bsE2_eq bldE_eq bldP_eq bldD_eq
attribute [local go_sem] cells_PV PC_size cells_FaV FaC_size zero_FaZ cells_DiV DiC_size run_bldF01 run_bsE2 run_bldE run_bldD run_bldP1
theorem known14_any (w:World):Calls Tryz.prog 9 #[] w fun e w'=>e = .returned (.bool true)/\Below w.heap.size w w':=by
 obtain ⟨g4,hg4⟩:∃ g,w.heap.size=g:=⟨_,rfl⟩;have lb:=run_bsE2 w;have S4:=dkC_src w g4 hg4;have b4:=below_new w (.cells dkC 57)
 have z4:(w.alloc (.cells dkC 57)).heap.size=g4+1:=by simp [hg4]
 obtain ⟨w4,hw4⟩:∃ w4,w.alloc (.cells dkC 57)=w4:=⟨_,rfl⟩;rw [hw4] at lb S4 b4 z4;rw [hg4] at lb;have V5:=vsrc_lit w4 3 #[.int .i64 1,.int .i64 1] [1,1] rfl (g4+1) 2 z4 rfl;have b5:=below_new w4 (.cells #[.int .i64 1,.int .i64 1] 3)
 have z5:(w4.alloc (.cells #[.int .i64 1,.int .i64 1] 3)).heap.size=g4+2:=by simp [z4]
 obtain ⟨w5,hw5⟩:∃ w5,w4.alloc (.cells #[.int .i64 1,.int .i64 1] 3)=w5:=⟨_,rfl⟩;rw [hw5] at V5 b5 z5;have F5:FcOk w5 ⟨some ⟨g4,0,none⟩,2,2,[dk1,dk2],⟨some ⟨g4+1,0,none⟩,2,2,none,0,0,dkP⟩,none,0,0,[]⟩:=⟨S4.below b5,⟨V5,SSrc.empty _,(show (2:Nat) <= 17592186044415 by decide)⟩,RcS.empty _⟩;obtain ⟨w6,hst,X6,B6,-⟩:=madeFx w5 ⟨some ⟨g4,0,none⟩,2,2,[dk1,dk2],⟨some ⟨g4+1,0,none⟩,2,2,none,0,0,dkP⟩,none,0,0,[]⟩ (g4+2) z5;obtain ⟨f,hf,h1,h2,h3,h4,h5,h6⟩:∃ f:Fc,f=⟨some ⟨g4,0,none⟩,2,2,[dk1,dk2],⟨some ⟨g4+1,0,none⟩,2,2,none,0,0,dkP⟩,none,0,0,[]⟩/\f.es=[dk1,dk2]/\f.p.P=dkP/\f.rs=[]/\f.an=2/\f.rn=0/\f.rc=0:=⟨_,rfl,rfl,rfl,rfl,rfl,rfl,rfl⟩;have hst2:(stFa (.pointer (some ⟨g4+2,0,none⟩)) (.agg #[.slice (some ⟨g4,0,none⟩) 2 2,.slice (some ⟨g4+1,0,none⟩) 2 2,.slice none 0 0,.slice none 0 0])).run Tryz.prog (w5.alloc (.cells (FaC (mkF fz0)) 29)) = .ok () w6:=hst
 have lf:(ldFa (.pointer (some ⟨g4+2,0,none⟩))).run Tryz.prog w6 = .ok (FaV (mkF f)) w6:=by rw [hf];exact run_ldFa X6
 have HB6:=hide ((b4.trans (b5.mono b4.size)).trans (B6.mono (Nat.le_trans b4.size b5.size)));have HU:Hid (SwB 1 w6 f):=⟨by rw [hf];exact F5.below B6,⟨by omega,fun _=>h6⟩,by omega,by omega,by rw [h3];intro r hr;cases hr⟩;have HP:Hid (FormF f/\HeardOf f dkH/\CanonOf (dotsG ((liveF f).map dotOf)) dkL):=⟨dk_form h1 h2 h3 h4 h5,dk_heard h1 h2,dk_live h1 h2 h3⟩;clear S4 b4 V5 b5 F5 X6 B6 hst hf h1 h2 h3 h4 h5 h6;go_enter Tryz.func9,Tryz.ntmps9;go_wp2_with fail;clear lb hw4 hw5 z4 z5 hst2 lf hg4;refine (ofFacts_any f _ (HU.out.u (by decide))).mono ?_;rintro e v7 ⟨d,er,rfl,Sd,b7,hd⟩
 obtain ⟨rfl,hD⟩:er=0/\DoF f d:=by
  rcases hd with ⟨h,-⟩ | ⟨-,h,k⟩
  ·exact absurd HP.out.1 h
  ·exact ⟨h,k⟩
 have eh:d.h.P=dkH:=hD.1.one HP.out.2.1;have el:d.l.P=dkL:=hD.2.unique HP.out.2.2 fun _ _ _=>Iff.rfl;obtain ⟨g8,hg8⟩:∃ g,v7.heap.size=g:=⟨_,rfl⟩;obtain ⟨w8,hst,X8,B8,-⟩:=madeDx14 v7 d g8 hg8;have HE:=hide (HB6.out.trans ((b7.trans (B8.mono b7.size)).mono HB6.out.size));have Sd8:=Sd.below B8
 have hvn:d.h.vn=2:=by rw [<- Sd8.1.vec.1,eh];rfl
 have hcn:d.l.cn=1:=by rw [<- Sd8.2.cloud.len,el];rfl
 obtain ⟨av,hav⟩:∃ a,d.h.vo=some a:=by
  cases h:d.h.vo with
  | none=>have:=Sd8.1.vec.2.1 h;omega
  | some a=>exact ⟨a,rfl⟩
 have hv0:=Sd8.1.vec.2.2 av hav 0 (by omega)
 obtain ⟨b1,o1,rfl⟩:∃ b1 o1,av=⟨b1,o1,none⟩:=by
  have h1:=World.cell?_spot hv0;obtain ⟨b,o,sp⟩:=av;obtain rfl:sp=none:=h1;exact ⟨b,o,rfl⟩
 obtain ⟨ac,hac,hc0⟩:=Sd8.2.cloud.at 0 (by omega)
 obtain ⟨b2,o2,rfl⟩:∃ b2 o2,ac=⟨b2,o2,none⟩:=by
  have h:=Sd8.2.cloud;rw [hac] at h;exact h.spot (by omega)
 have hl0:=hc0.c1;rw [el] at hl0
 have hl:w8.cell? ⟨b2,o2+1,none⟩=some (.int .i64 2):=by
  rw [Addr.add_lit,Addr.add_lit] at hl0;have h2:w8.cell? ⟨b2,o2+0 * 3+1,none⟩=some (.int .i64 2):=hl0;simpa using h2
 rw [eh] at hv0;have c0:=X8.c0;have c3:w8.cell? ⟨g8,2+1,none⟩=some (.slice d.l.co d.l.cn d.l.cc):=X8.c3
 have c0':w8.cell? ⟨g8,0,none⟩=some (.slice (some ⟨b1,o1,none⟩) 2 d.h.vc):=by rw [<- hav,<- hvn];exact c0
 rw [hac,hcn] at c3
 have hv:w8.cell? ⟨b1,o1,none⟩=some (.int .i64 2):=by
  have h2:w8.cell? ⟨b1,o1+0,none⟩=some (.int .i64 2):=hv0;simpa using h2
 clear hvn hcn hav hac hv0 hc0 hl0 Sd b7 hd hD eh el X8 B8 Sd8 c0;go_wp2_with fail;go_ret;exact ⟨rfl,HE.out⟩
end
section
open Go.RowKit
def sx1:K.En:=⟨0,1,⟨#[65]⟩,5⟩
def sxP:Pst:=⟨[1],[]⟩
def A1D (s:Fc):Prop:=s.es=[sx1]/\s.an=1/\s.p.P=sxP/\s.rs=[]/\s.rn=0/\s.rc=0
def sxC:Array Value:=#[.int .i64 0,.int .i64 1,.string ⟨#[65]⟩,.int .i64 5]
def bsX1 (a:Array (Nat × Value)):Sem Value:=Instr.buildSlice 22 1 a
theorem bsX1_eq (a:Array (Nat × Value)):Instr.buildSlice 22 1 a=bsX1 a:=rfl
theorem run_bsX1 (w:World):(bsX1 #[(0,.agg #[.int .i64 0,.int .i64 1,.string ⟨#[65]⟩,.int .i64 5])]).run Tryz.prog w = .ok (.slice (some ⟨w.heap.size,0,none⟩) 1 1) (w.alloc (.cells sxC 57)):=by kernel_rfl
theorem run_bldS01 (a v:Option Addr) (n c m d:Nat) (w:World):(bldS #[(0,.slice a n c),(1,.agg #[.slice v m d,.slice none 0 0])]).run Tryz.prog w = .ok (.agg #[.slice a n c,.slice v m d,.slice none 0 0,.slice none 0 0]) w:=by kernel_rfl
theorem madeSx (w:World) (m:Fc) (g:Nat) (hg:w.heap.size=g):∃ w':World,(stSw (.pointer (some ⟨g,0,none⟩)) (.agg (FaC (mkF m)))).run Tryz.prog (w.alloc (.cells (FaC (mkF fz0)) 31)) = .ok () w'/\SwBox w' g (mkF m)/\Below w.heap.size w w'/\w'.heap.size=w.heap.size+1:=by
 subst hg;exact ⟨_,run_stSw (SwBox_new w _),(SwBox_new w _).setRow,below_setRow (below_new w _) (Nat.le_refl _),by simp [World.setRow]⟩
attribute [local go_sem ↓] ldP_eq stP_eq ldSw_eq stSw_eq bldS_eq bsX1_eq bldE_eq bldP_eq bldD_eq
attribute [local go_sem] cells_PV PC_size cells_FaV FaC_size zero_FaZ run_bldS01 run_bsX1 run_bldE run_bldD run_bldP1
end
section
open Go.ChangeShapes Go.WideShapes Go.ChangeAt Go.RowKit Go.Joins

theorem own:ownKnob Tryz.prog.godebug=none:=by kernel_rfl
theorem laidOut:laidOutB Tryz.prog=true:=by kernel_rfl
theorem cellsS:Tryz.prog.cellsOf 65=3:=by kernel_rfl
theorem cellsI:Tryz.prog.cellsOf 3=1:=by kernel_rfl
theorem cellsP:Tryz.prog.cellsOf 26=2:=by kernel_rfl
theorem cellsV:Tryz.prog.cellsOf 23=1:=by kernel_rfl
theorem cellsC:Tryz.prog.cellsOf 24=1:=by kernel_rfl
theorem bulk_pos {H:Type} (d:DataW H):1 <= Rows.uptoBulk d:=by
 cases d with
 | lit l=>cases l <;> simp only [Rows.uptoBulk] <;> omega
 | _=>simp only [Rows.uptoBulk] <;> omega
theorem bulk_len {H:Type}:∀ (l:List (DataW H)),l.length <= Rows.uptoBulkAll l
 | []=>by simp
 | d :: l=>by have:=bulk_len l;have:=bulk_pos d;simp only [Rows.uptoBulkAll,List.length_cons];omega
theorem list2 {α : Type} {l:List α} (h:l.length=2):∃ a b,l=[a,b]:=by
 match l,h with
 | [a,b],_=>exact ⟨a,b,rfl⟩
theorem list3 {α : Type} {l:List α} (h:l.length=3):∃ a b c,l=[a,b,c]:=by
 match l,h with
 | [a,b,c],_=>exact ⟨a,b,c,rfl⟩
theorem open_span {H:Type} {enc:TypeId × Value -> H} {w:World} {base:Nat} {spare:Nat -> Bool} {held:Bool} {fuel:Nat} {cs:List Value} {x:DataW H × List MemPlace}
  (h:DataW.trod enc Tryz.prog w base spare held fuel 65 cs=some x):∃ e:Sn,cs=(SC e).toList:=by
 obtain ⟨xs,m,_,hx,hcl,hxl,hf⟩:=DataW.trod_struct Tryz.underlying65 h;obtain ⟨v0,v1,v2,rfl⟩:=list3 (hcl.trans cellsS);obtain ⟨y0,y1,y2,rfl⟩:=list3 hxl;have t0:=hf 0 _ rfl;have t1:=hf 1 _ rfl;have t2:=hf 2 _ rfl;simp [cellsI] at t0 t1 t2;obtain ⟨r,e0,-,_⟩:=DataW.trod_int Tryz.underlying3 t0;obtain ⟨n,e1,-,_⟩:=DataW.trod_int Tryz.underlying3 t1;obtain ⟨m',e2,-,_⟩:=DataW.trod_int Tryz.underlying3 t2;simp only [List.cons.injEq,and_true] at e0 e1 e2;subst e0 e1 e2;exact ⟨⟨r,n,m'⟩,rfl⟩
theorem viewI {H:Type} {enc:TypeId × Value -> H} {W:World} {fuel:Nat} {v:Value} {x:DataW H × List MemPlace}
  (h:DataW.trod enc Tryz.prog W 0 (fun _=>true) true fuel 23 [v]=some x) (hw:Rows.uptoBulk x.1 <= 1048576):∃ (ao:Option Addr) (n cap:Nat) (Z:List Int),v = .slice ao n cap/\V.Src W ao n cap Z/\n <= 1048576:=by
 rcases DataW.trod_slice Tryz.underlying23 h with h0 | ⟨a,len,cap,elems,rest,n,_,hcs,hx,hb,hl,hm,hlen,hel,hsp,hns⟩
 ·have e:v = .slice none 0 0:=by simpa using h0.1
  exact ⟨none,0,0,[],e,⟨rfl,fun _=>⟨rfl,rfl⟩,fun ad h=>(by cases h)⟩,Nat.zero_le _⟩
 ·subst hx
  have e:v = .slice (some a) len cap:=by simpa using hcs
  simp only [Rows.uptoBulk] at hw;have h1:=bulk_len (elems.map (·.1));simp only [List.length_map] at h1
  have key:∀ i,i < len -> ∃ z:Int,W.cell? (a.add i)=some (.int .i64 z):=by
   intro i hi;have he:=hel i hi;obtain ⟨y,hy⟩:∃ y,elems[i]? = some y:=⟨_,List.getElem?_eq_getElem (by omega)⟩;rw [hy,cellsI,Option.bind_eq_some_iff] at he;obtain ⟨cs',hcs,hy'⟩:=he;obtain ⟨hl',-,hce⟩:=World.cells?_some hcs;obtain ⟨z,rfl,-,_⟩:=DataW.trod_int Tryz.underlying3 hy';have g0:=hce 0 (by omega);rw [add_zero,Nat.mul_one] at g0;exact ⟨z,g0⟩
  refine ⟨some a,len,cap,(List.range len).map fun i=>if h:i < len then Classical.choose (key i h) else 0,e,⟨by simp,fun h=>(by cases h),fun ad h t ht=>?_⟩,by omega⟩;obtain rfl:=Option.some.inj h
  have:((List.range len).map fun i=>if h:i < len then Classical.choose (key i h) else 0).getD t 0=Classical.choose (key t ht):=by simp [List.getD,ht]
  rw [this];exact Classical.choose_spec (key t ht)
theorem viewC {H:Type} {enc:TypeId × Value -> H} {W:World} {fuel:Nat} {v:Value} {x:DataW H × List MemPlace}
  (h:DataW.trod enc Tryz.prog W 0 (fun _=>true) true fuel 24 [v]=some x) (hw:Rows.uptoBulk x.1 <= 1048576):∃ (ao:Option Addr) (n cap:Nat) (L:List Sn),v = .slice ao n cap/\SSrc W ao n cap L/\n <= 1048576:=by
 rcases DataW.trod_slice Tryz.underlying24 h with h0 | ⟨a,len,cap,elems,rest,n,_,hcs,hx,hb,hl,hm,hlen,hel,hsp,hns⟩
 ·have e:v = .slice none 0 0:=by simpa using h0.1
  exact ⟨none,0,0,[],e,SSrc.empty _,Nat.zero_le _⟩
 ·subst hx
  have e:v = .slice (some a) len cap:=by simpa using hcs
  simp only [Rows.uptoBulk] at hw;have h1:=bulk_len (elems.map (·.1));simp only [List.length_map] at h1
  have key:∀ i,i < len -> ∃ e:Sn,SnAt W (a.add (i * 3)) e:=by
   intro i hi;have he:=hel i hi;obtain ⟨y,hy⟩:∃ y,elems[i]? = some y:=⟨_,List.getElem?_eq_getElem (by omega)⟩;rw [hy,cellsS,Option.bind_eq_some_iff] at he;obtain ⟨cs',hcs,hy'⟩:=he;obtain ⟨_,-,hce⟩:=World.cells?_some hcs;obtain ⟨e,rfl⟩:=open_span hy';have g0:=hce 0 (by omega);rw [add_zero] at g0;exact ⟨e,⟨g0,hce 1 (by omega),hce 2 (by omega)⟩⟩
  refine ⟨some a,len,cap,(List.range len).map fun i=>if h:i < len then Classical.choose (key i h) else sn0,e,⟨by simp,fun h=>(by cases h),fun ad h t ht=>?_,by omega,hl⟩,by omega⟩;obtain rfl:=Option.some.inj h
  have:((List.range len).map fun i=>if h:i < len then Classical.choose (key i h) else sn0).getD t sn0=Classical.choose (key t ht):=by simp [List.getD,ht]
  rw [this];exact Classical.choose_spec (key t ht)
theorem viewP {H:Type} {enc:TypeId × Value -> H} {W:World} {fuel:Nat} {cs:List Value} {x:DataW H × List MemPlace}
  (h:DataW.trod enc Tryz.prog W 0 (fun _=>true) true fuel 26 cs=some x) (hw:Rows.uptoBulk x.1 <= 1048576):∃ p:Pv,cs=[.slice p.vo p.vn p.vc,.slice p.co p.cn p.cc]/\PSrc W p/\p.P.cloud.length <= 1048576:=by
 obtain ⟨xs,m,_,hx,hcl,hxl,hf⟩:=DataW.trod_struct Tryz.underlying26 h;obtain ⟨v0,v1,rfl⟩:=list2 (hcl.trans cellsP);obtain ⟨y0,y1,rfl⟩:=list2 hxl;have t0:=hf 0 _ rfl;have t1:=hf 1 _ rfl;simp [cellsV,cellsC] at t0 t1;subst hx;simp only [Rows.uptoBulk,List.map_cons,List.map_nil,Rows.uptoBulkAll] at hw;obtain ⟨a0,l0,c0,Z,rfl,S0,g0⟩:=viewI t0 (by omega);obtain ⟨a1,l1,c1,L,rfl,S1,g1⟩:=viewC t1 (by omega);exact ⟨⟨a0,l0,c0,a1,l1,c1,⟨Z,L⟩⟩,rfl,⟨S0,S1,by show l0 <= _;omega⟩,by show L.length <= _;rw [S1.len];exact g1⟩
end
end Go.Proofs.YtjeilkenjdnafaaGreat
namespace Go.Proofs.YtjeilkenjdnafaaGreat.K
open Go.ChangeShapes Go.WideShapes Go.ChangeAt Go.RowKit Go.Joins

theorem own:ownKnob Tryz.prog.godebug=none:=by kernel_rfl
theorem cells28:Tryz.prog.cellsOf 57=4:=by kernel_rfl
theorem cells26:Tryz.prog.cellsOf 55=2:=by kernel_rfl
theorem cells3:Tryz.prog.cellsOf 3=1:=by kernel_rfl
theorem cells9:Tryz.prog.cellsOf 9=1:=by kernel_rfl
theorem list2 {α : Type} {l:List α} (h:l.length=2):∃ a b,l=[a,b]:=by
 match l,h with
 | [a,b],_=>exact ⟨a,b,rfl⟩
theorem list3 {α : Type} {l:List α} (h:l.length=3):∃ a b c,l=[a,b,c]:=by
 match l,h with
 | [a,b,c],_=>exact ⟨a,b,c,rfl⟩
theorem list4 {α : Type} {l:List α} (h:l.length=4):∃ a b c d,l=[a,b,c,d]:=by
 match l,h with
 | [a,b,c,d],_=>exact ⟨a,b,c,d,rfl⟩
theorem open_entry {H:Type} {enc:TypeId × Value -> H} {w:World} {base:Nat} {spare:Nat -> Bool} {held:Bool} {fuel:Nat} {cs:List Value} {x:DataW H × List MemPlace}
  (h:DataW.trod enc Tryz.prog w base spare held fuel 57 cs=some x):∃ e:En,cs=(EC e).toList/\e.sku.size <= maxLen:=by
 obtain ⟨xs,m,_,hx,hcl,hxl,hf⟩:=DataW.trod_struct Tryz.underlying57 h;obtain ⟨v0,v1,v2,v3,rfl⟩:=list4 (hcl.trans cells28);obtain ⟨y0,y1,y2,rfl⟩:=list3 hxl;have t0:=hf 0 _ rfl;have t1:=hf 1 _ rfl;have t2:=hf 2 _ rfl;simp [cells3,cells9,cells26] at t0 t1 t2;obtain ⟨xs',m',_,hx',hcl',hxl',hf'⟩:=DataW.trod_struct Tryz.underlying55 t0;obtain ⟨z0,z1,rfl⟩:=list2 hxl';have s0:=hf' 0 _ rfl;have s1:=hf' 1 _ rfl;simp [cells3] at s0 s1;obtain ⟨r,e0,-,_⟩:=DataW.trod_int Tryz.underlying3 s0;obtain ⟨n,e1,-,_⟩:=DataW.trod_int Tryz.underlying3 s1;obtain ⟨s,e2,-,w2⟩:=DataW.trod_string Tryz.underlying9 t1;obtain ⟨q,e3,-,_⟩:=DataW.trod_int Tryz.underlying3 t2;simp only [List.cons.injEq,and_true] at e0 e1 e2 e3;subst e0 e1 e2 e3;exact ⟨⟨r,n,s,q⟩,rfl,w2⟩
end Go.Proofs.YtjeilkenjdnafaaGreat.K
namespace Go.Proofs.YtjeilkenjdnafaaGreat
section
open Go.ChangeShapes Go.WideShapes Go.ChangeAt Go.RowKit Go.Joins

def RSmT (L:List Rc):Prop:=L.length <= 209715/\∀ r∈L,r.p.P.cloud.length <= 1048576
structure FcU (w:World) (f:Fc):Prop where
 ok:FcOk w f
 row:FcR f
 sm:RSmT f.rs
 an:f.an <= 1048576
theorem FcU.rn {w:World} {f:Fc} (h:FcU w f):f.rn <= 209715:=by rw [<- h.ok.rs.len];exact h.sm.1
theorem cellsRe:Tryz.prog.cellsOf 83=3:=by kernel_rfl
theorem cellsSk:Tryz.prog.cellsOf 9=1:=by kernel_rfl
theorem cellsEs:Tryz.prog.cellsOf 22=1:=by kernel_rfl
theorem cellsRs:Tryz.prog.cellsOf 27=1:=by kernel_rfl
theorem cellsFa:Tryz.prog.cellsOf 29=4:=by kernel_rfl
theorem bulk_at {H:Type}:∀ (l:List (DataW H)) (d:DataW H),d∈l -> Rows.uptoBulk d <= Rows.uptoBulkAll l
 | e :: l,d,h=>by
  simp only [Rows.uptoBulkAll];rcases List.mem_cons.1 h with rfl | h
  ·omega
  ·have:=bulk_at l d h;omega
theorem bulk_five {H:Type}:∀ (l:List (DataW H)),(∀ d∈l,5 <= Rows.uptoBulk d) -> 5 * l.length <= Rows.uptoBulkAll l
 | [],_=>by simp
 | d :: l,h=>by
  have h1:=bulk_five l (fun e he=>h e (List.mem_cons_of_mem _ he));have h2:=h d List.mem_cons_self;simp only [Rows.uptoBulkAll,List.length_cons];omega
theorem viewEu {H:Type} {enc:TypeId × Value -> H} {W:World} {fuel:Nat} {v:Value} {x:DataW H × List MemPlace}
  (h:DataW.trod enc Tryz.prog W 0 (fun _=>true) true fuel 22 [v]=some x) (hw:Rows.uptoBulk x.1 <= 1048576):∃ (ao:Option Addr) (n cap:Nat) (L:List K.En),v = .slice ao n cap/\K.ESrc W ao n cap L/\n <= 1048576:=by
 rcases DataW.trod_slice Tryz.underlying22 h with h0 | ⟨a,len,cap,elems,rest,n,_,hcs,hx,hb,hl,hm,hlen,hel,hsp,hns⟩
 ·have e:v = .slice none 0 0:=by simpa using h0.1
  exact ⟨none,0,0,[],e,⟨rfl,fun _=>⟨rfl,rfl⟩,fun ad h=>(by cases h),fun e he=>(by cases he),Nat.zero_le _⟩,Nat.zero_le _⟩
 ·subst hx
  have e:v = .slice (some a) len cap:=by simpa using hcs
  simp only [Rows.uptoBulk] at hw;have h1:=bulk_len (elems.map (·.1));simp only [List.length_map] at h1
  have key:∀ i,i < len -> ∃ e:K.En,K.EnAt W (a.add (i * 4)) e/\e.sku.size <= maxLen:=by
   intro i hi;have he:=hel i hi;obtain ⟨y,hy⟩:∃ y,elems[i]? = some y:=⟨_,List.getElem?_eq_getElem (by omega)⟩;rw [hy,K.cells28,Option.bind_eq_some_iff] at he;obtain ⟨cs',hcs,hy'⟩:=he;obtain ⟨_,-,hce⟩:=World.cells?_some hcs;obtain ⟨e,rfl,hs⟩:=K.open_entry hy';have g0:=hce 0 (by omega);rw [add_zero] at g0;exact ⟨e,⟨g0,hce 1 (by omega),hce 2 (by omega),hce 3 (by omega)⟩,hs⟩
  refine ⟨some a,len,cap,(List.range len).map fun i=>if h:i < len then Classical.choose (key i h) else K.en0,e,⟨by simp,fun h=>(by cases h),fun ad h t ht=>?_,fun e he=>?_,by omega⟩,by omega⟩
  ·obtain rfl:=Option.some.inj h
   have:((List.range len).map fun i=>if h:i < len then Classical.choose (key i h) else K.en0).getD t K.en0=Classical.choose (key t ht):=by simp [List.getD,ht]
   rw [this];exact (Classical.choose_spec (key t ht)).1
  ·simp only [List.mem_map,List.mem_range] at he;obtain ⟨i,hi,rfl⟩:=he;rw [dif_pos hi];exact (Classical.choose_spec (key i hi)).2
theorem past_bulk {H:Type} {enc:TypeId × Value -> H} {W:World} {fuel:Nat} {cs:List Value} {x:DataW H × List MemPlace}
  (h:DataW.trod enc Tryz.prog W 0 (fun _=>true) true fuel 26 cs=some x):3 <= Rows.uptoBulk x.1:=by
 obtain ⟨xs,m,_,hx,hcl,hxl,hf⟩:=DataW.trod_struct Tryz.underlying26 h;obtain ⟨y0,y1,rfl⟩:=list2 hxl;subst hx;have h0:=bulk_pos y0.1;have h1:=bulk_pos y1.1;simp only [Rows.uptoBulk,List.map_cons,List.map_nil,Rows.uptoBulkAll];omega
theorem open_recordU {H:Type} {enc:TypeId × Value -> H} {W:World} {fuel:Nat} {cs:List Value} {x:DataW H × List MemPlace}
  (h:DataW.trod enc Tryz.prog W 0 (fun _=>true) true fuel 83 cs=some x):5 <= Rows.uptoBulk x.1/\(Rows.uptoBulk x.1 <= 1048576 -> ∃ r:Rc,cs=(ReC (mkR r)).toList/\RcOk W r/\r.p.P.cloud.length <= 1048576):=by
 obtain ⟨xs,m,_,hx,hcl,hxl,hf⟩:=DataW.trod_struct Tryz.underlying83 h;obtain ⟨v0,v1,v2,rfl⟩:=list3 (hcl.trans cellsRe);obtain ⟨y0,y1,rfl⟩:=list2 hxl;have t0:=hf 0 _ rfl;have t1:=hf 1 _ rfl;simp [cellsP,cellsSk] at t0 t1;subst hx;simp only [Rows.uptoBulk,List.map_cons,List.map_nil,Rows.uptoBulkAll];have b0:=bulk_pos y0.1;have b1:=past_bulk t1;refine ⟨by omega,fun hw=>?_⟩;obtain ⟨s,e0,-,hs⟩:=DataW.trod_string Tryz.underlying9 t0;obtain ⟨p,ep,Sp,hl⟩:=viewP t1 (by omega);simp only [List.cons.injEq,and_true] at e0 ep;obtain ⟨rfl,rfl⟩:=ep;subst e0;exact ⟨⟨s,p⟩,rfl,⟨Sp,hs⟩,hl⟩
theorem viewRT {H:Type} {enc:TypeId × Value -> H} {W:World} {fuel:Nat} {v:Value} {x:DataW H × List MemPlace}
  (h:DataW.trod enc Tryz.prog W 0 (fun _=>true) true fuel 27 [v]=some x) (hw:Rows.uptoBulk x.1 <= 1048576):∃ (ao:Option Addr) (n cap:Nat) (L:List Rc),v = .slice ao n cap/\RcT W ao n cap L/\RSmT L:=by
 rcases DataW.trod_slice Tryz.underlying27 h with h0 | ⟨a,len,cap,elems,rest,n,_,hcs,hx,hb,hl,hm,hlen,hel,hsp,hns⟩
 ·have e:v = .slice none 0 0:=by simpa using h0.1
  exact ⟨none,0,0,[],e,⟨RcS.empty _,Nat.le_refl _,fun _=>rfl⟩,Nat.zero_le _,fun r hr=>by cases hr⟩
 ·subst hx
  have e:v = .slice (some a) len cap:=by simpa using hcs
  simp only [Rows.uptoBulk] at hw
  have op:∀ i (hi:i < elems.length),i < len/\∃ cs',(5 <= Rows.uptoBulk elems[i].1/\(Rows.uptoBulk elems[i].1 <= 1048576 -> ∃ r:Rc,cs'=(ReC (mkR r)).toList/\RcOk W r/\r.p.P.cloud.length <= 1048576))/\(∀ j,j < 3 -> W.cell? ((a.add (i * 3)).add j)=cs'[j]?):=by
   intro i hi
   have hi':i < len:=by omega
   have he:=hel i hi';rw [List.getElem?_eq_getElem hi,cellsRe,Option.bind_eq_some_iff] at he;obtain ⟨cs',hcs,hy'⟩:=he;obtain ⟨_,-,hce⟩:=World.cells?_some hcs;exact ⟨hi',cs',open_recordU hy',fun j hj=>hce j hj⟩
  have h5:=bulk_five (elems.map (·.1)) (fun d hd=>by
   obtain ⟨y,hy,rfl⟩:=List.mem_map.1 hd;obtain ⟨i,hi,rfl⟩:=List.getElem_of_mem hy;obtain ⟨-,_,h,-⟩:=op i hi
   exact h.1)
  simp only [List.length_map] at h5
  have key:∀ i,i < len -> ∃ r:Rc,ReAt W (a.add (i * 3)) (mkR r)/\RcOk W r/\r.p.P.cloud.length <= 1048576:=by
   intro i hi
   have hi':i < elems.length:=by omega
   obtain ⟨-,cs',h,hce⟩:=op i hi';obtain ⟨r,rfl,hr,hl2⟩:=h.2 (by have:=bulk_at (elems.map (·.1)) elems[i].1 (List.mem_map_of_mem (f:=(·.1)) (List.getElem_mem hi'));omega);have g0:=hce 0 (by omega);rw [add_zero] at g0;exact ⟨r,⟨g0,hce 1 (by omega),hce 2 (by omega)⟩,hr,hl2⟩
  refine ⟨some a,len,cap,(List.range len).map fun i=>if h:i < len then Classical.choose (key i h) else rc0,e,⟨⟨by simp,(fun h=>by cases h),fun ad h t ht=>?_,fun r hr=>?_,by omega⟩,hl,fun h=>by cases h⟩,by simp;omega,fun r hr=>?_⟩
  ·obtain rfl:=Option.some.inj h
   have:((List.range len).map fun i=>if h:i < len then Classical.choose (key i h) else rc0).getD t rc0=Classical.choose (key t ht):=by simp [List.getD,ht]
   rw [this];exact (Classical.choose_spec (key t ht)).1
  ·simp only [List.mem_map,List.mem_range] at hr;obtain ⟨i,hi,rfl⟩:=hr;rw [dif_pos hi];exact (Classical.choose_spec (key i hi)).2.1
  ·simp only [List.mem_map,List.mem_range] at hr;obtain ⟨i,hi,rfl⟩:=hr;rw [dif_pos hi];exact (Classical.choose_spec (key i hi)).2.2
theorem open_factsU {H:Type} {enc:TypeId × Value -> H} {W:World} {fuel:Nat} {cs:List Value} {x:DataW H × List MemPlace}
  (h:DataW.trod enc Tryz.prog W 0 (fun _=>true) true fuel 29 cs=some x) (hw:Rows.uptoBulk x.1 <= 1048576):∃ f:Fc,cs=(FaC (mkF f)).toList/\FcU W f:=by
 obtain ⟨xs,m,_,hx,hcl,hxl,hf⟩:=DataW.trod_struct Tryz.underlying29 h;obtain ⟨v0,v1,v2,v3,rfl⟩:=K.list4 (hcl.trans cellsFa);obtain ⟨y0,y1,y2,rfl⟩:=list3 hxl;have t0:=hf 0 _ rfl;have t1:=hf 1 _ rfl;have t2:=hf 2 _ rfl;simp [cellsP,cellsEs,cellsRs] at t0 t1 t2;subst hx;simp only [Rows.uptoBulk,List.map_cons,List.map_nil,Rows.uptoBulkAll] at hw;obtain ⟨ro,rn,rc,R,rfl,Sr,r1⟩:=viewRT t2 (by omega);obtain ⟨ao,an,ac,A,rfl,Sa,a1⟩:=viewEu t0 (by omega);obtain ⟨p,ep,Sp,-⟩:=viewP t1 (by omega);simp only [List.cons.injEq,and_true] at ep;obtain ⟨rfl,rfl⟩:=ep;exact ⟨⟨ao,an,ac,A,p,ro,rn,rc,R⟩,rfl,⟨Sa,Sp,Sr.src⟩,⟨Sr.room,Sr.nil⟩,r1,a1⟩
end
section
open Go.ChangeShapes Go.WideShapes Go.ChangeAt Go.RowKit Go.Joins
theorem FcU.b {w:World} {s:Fc} (h:FcU w s):SwB 1 w s:=⟨h.ok,h.row,by have:=h.rn;omega,by have:=h.an;omega,h.sm.2⟩
end
section
open Go.RowKit
theorem ls_recs {s l:Fc} {d:Dg} (fs:FormS s) (h:LsD s d l):plR l.rs=plR s.rs:=by
 rw [h.2.2.2.2];refine List.filter_eq_self.2 fun y hy=>?_;obtain ⟨r,hr,rfl⟩:=List.mem_map.1 hy;exact waitB_yes (fs.2.2.1 r hr)
theorem ls_sub {s l:Fc} {d:Dg} (h:LsD s d l) {e:K.En} (he:e∈l.es):e∈s.es/\inB d.h.P e=false:=by
 rw [h.1,List.mem_filter] at he;refine ⟨he.1,?_⟩;have h2:=he.2;unfold pkB at h2;simpa using h2
theorem ls_past {s l:Fc} {d:Dg} (fs:FormS s) (h:LsD s d l) {e:K.En} (he:inB l.p.P e=true):inB s.p.P e=true:=by
 rcases (h.2.2.1 e).1 he with ⟨-,x,hx,hd⟩ | ⟨⟨h1,-⟩,-⟩
 ·rw [<- dot_inB hd];exact fs.2.1 x (ls_sub h hx).1
 ·exact h1
attribute [local go_sem ↓] ldSw_eq stSw_eq ldDi_eq stDi_eq
attribute [local go_sem] cells_FaV FaC_size zero_FaZ cells_DiV DiC_size
end
end Go.Proofs.YtjeilkenjdnafaaGreat
