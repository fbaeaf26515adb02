/- YDf BAe YDl YDk SXa -/
import Derived.Test.YtjeilkenjdnafaaGreatTk
import Derived.Test.YtjeilkenjdnafaaGreatDk42
import Derived.Test.YtjeilkenjdnafaaGreatDk27
import Derived.Maps.AppendAt
import Derived.Laws.AppendOwnNone
import Derived.Test.YtjeilkenjdnafaaGreatDk30
import Derived.Test.YtjeilkenjdnafaaGreatDk39
import Derived.Test.YtjeilkenjdnafaaGreatDk21
import Derived.Test.YtjeilkenjdnafaaGreatDk41
import Derived.Test.YtjeilkenjdnafaaGreatDk38
set_option maxRecDepth 100000
set_option maxHeartbeats 6400000
namespace Go.Proofs.YtjeilkenjdnafaaGreat
open Go.RowKit
def LfD (f:Fc) (d:Dg) (l:Fc):Prop:=l.es=(liveF f).filter (pkB d.h.P false)/\∃ H,HeardOf f H/\InForm l.p.P/\(∀ e,inB l.p.P e=true↔goneE (liveF f) H d e)/\WtOf f.rs H l.rs
def LfR (f:Fc) (d:Dg) (l:Fc) (er:Int):Prop:=(¬ (FormF f/\FormD d.h.P d.l.P)/\er=1/\l=fz0)∨((FormF f/\FormD d.h.P d.l.P)/\er=0/\LfD f d l)
def LfE (N:Nat) (w w':World) (x:Ending) (f:Fc) (d:Dg):Prop:=∃ l er,x = .returned (.tuple #[FaV (mkF l),.int .i64 er])/\SwB N w' l/\Below w.heap.size w w'/\LfR f d l er
theorem boxFDF (w:World) (s:Fc) (d:Dg):∃ wk,((w.alloc (.cells (FaC (mkF s)) 29)).alloc (.cells (DiC (mkD d)) 33)).alloc (.cells (FaC (mkF fz0)) 29)=wk/\Hid (FaBox wk w.heap.size (mkF s))/\Hid (DiBox wk (w.heap.size+1) (mkD d))/\Hid (FaBox wk (w.heap.size+2) (mkF fz0))/\Hid (Below w.heap.size w wk):=by
 have b1:=below_new w (.cells (FaC (mkF s)) 29);have b2:=below_new (w.alloc (.cells (FaC (mkF s)) 29)) (.cells (DiC (mkD d)) 33);have X2:=DiBox_new (w.alloc (.cells (FaC (mkF s)) 29)) (mkD d);have b3:=below_new ((w.alloc (.cells (FaC (mkF s)) 29)).alloc (.cells (DiC (mkD d)) 33)) (.cells (FaC (mkF fz0)) 29);have X3:=FaBox_new ((w.alloc (.cells (FaC (mkF s)) 29)).alloc (.cells (DiC (mkD d)) 33)) (mkF fz0);have B2:=b1.trans (b2.mono b1.size);rw [World.size_alloc] at X2;rw [World.size_alloc,World.size_alloc] at X3;exact ⟨_,rfl,((FaBox_new w (mkF s)).below b2).below b3,X2.below b3,X3,B2.trans (b3.mono B2.size)⟩
attribute [local go_sem ↓] ldP_eq stP_eq ldDi_eq stDi_eq ldFa_eq stFa_eq bldF_eq
attribute [local go_sem] cells_PV PC_size zero_PC cells_DiV DiC_size cells_FaV FaC_size zero_FaZ run_bldF0 run_bldFx
theorem lackFacts_any (N:Nat) (hN:N <= 4) (s:Fc) (d:Dg) (w:World) (hS:SwB N w s) (hd:DgOk w d):Calls Tryz.prog 18 #[FaV (mkF s),DiV (mkD d)] w fun e w'=>LfE N w w' e s d:=by
 obtain ⟨wk,hwk,HX,HD,HZ,HBK⟩:=boxFDF w s d;obtain ⟨G,hG0⟩:∃ G,w.heap.size=G:=⟨_,rfl⟩;rw [hG0] at HX HD HZ;have HGs:Hid (w.heap.size=G):=hG0;have HS:=hide (hS.below HBK.out);have HU:=hide ((hS.below HBK.out).u hN);have HO:=hide (hd.below HBK.out);have HBad:Hid (∀ W,Below wk.heap.size wk W -> ¬ (FormF s/\FormD d.h.P d.l.P) -> LfE N w (W.setRow (G+2) (FaC (mkF fz0))) (.returned (.tuple #[FaV (mkF fz0),.int .i64 1])) s d):=fun W h k=>⟨fz0,1,rfl,fz0_b N _,below_setRow (HBK.out.trans (h.mono HBK.out.size)) (by rw [HGs.out];omega),.inl ⟨k,rfl,rfl⟩⟩;clear hS hd;have l0:=run_ldFa HX.out;go_enter Tryz.func18,Tryz.ntmps18;go_wp2_with fail;clear hwk hG0 l0;refine (tPast_any s _ HU.out.ok).mono ?_;rintro e v3 ⟨p,er,rfl,Sp,-,b3,hp⟩;obtain ⟨g4,hg4⟩:∃ g,v3.heap.size=g:=⟨_,rfl⟩;obtain ⟨w3,hst,X3,B3,-⟩:=madeP v3 p g4 hg4
 have b33:=b3.trans (B3.mono b3.size);have HB3:=hide b33;have HXp:=hide X3;have HSp:=hide (Sp.below B3);have HP:=hide (ps_heard hp);have A3:=HZ.out.below b33;clear Sp b3 hp X3 B3 b33;rcases HP.out with ⟨h1,rfl,-⟩ | ⟨h1,rfl,h2⟩
 ·have st:=run_stFa (m':=mkF fz0) A3;have HE1:Hid (FaBox (w3.setRow (G+2) (FaC (mkF fz0))) (G+2) (mkF fz0)):=A3.setRow;have HE:=hide (HBad.out _ HB3.out fun h=>h1 h.1);clear h1 A3 HP;go_wp2_with fail;clear st hst hg4;refine bodyPost_ret (res2Fb rfl rfl rfl HE1.out) rfl ?_;exact HE.out
 have HFs:=hide h1;have HH:=hide h2;have HZ3:=hide A3;have l0:=run_ldDi (HD.out.below HB3.out);clear h1 h2 A3 HP;go_wp2_with fail;clear l0 hst hg4;refine (dcheck_any d _ (HO.out.below HB3.out)).mono ?_;rintro e w4 ⟨z,rfl,hz,b4⟩;have HB4:=wTr HB3 b4;have HXp4:=hide (HXp.out.below b4);have HSp4:=hide (HSp.out.below b4);have A4:=HZ3.out.below b4;clear b4 HXp HSp;rcases hz with ⟨rfl,hfd⟩ | ⟨rfl,hfd⟩
 ·have st:=run_stFa (m':=mkF fz0) A4;have HE1:Hid (FaBox (w4.setRow (G+2) (FaC (mkF fz0))) (G+2) (mkF fz0)):=A4.setRow;have HE:=hide (HBad.out _ HB4.out fun h=>hfd h.2);clear hfd A4;go_wp2_with fail;clear st;refine bodyPost_ret (res2Fb rfl rfl rfl HE1.out) rfl ?_;exact HE.out
 have HFd:=hide hfd;have HZ4:=hide A4;have l0:=run_ldFa (HX.out.below HB4.out);clear hfd A4 HBad;go_wp2_with fail;clear l0;refine (tLive_any s _ (HU.out.ok.below HB4.out) HU.out.wt HU.out.nm).mono ?_;rintro e w5 hL;obtain ⟨lo,ln,lc,rfl,SL,b5,-⟩:K.GivesEE w4 w5 e (liveF s) 0:=hL.elim (fun h=>by have:=h.2;rwa [live_L] at this) fun h=>absurd HFs.out h.1;have HB5:=wTr HB4 b5;have HSL:=hide SL;have HXp5:=hide (HXp4.out.below b5);have HSp5:=hide (HSp4.out.below b5)
 have HCl:Hid (K.chk (liveF s)=0):=by
  show _=_
  unfold liveF;exact chk_filter ((chk_okS HS.out.ok.es.1).2 HFs.out.1) _
 have lp:=run_ldP HXp5.out.at
 have l0:=run_ldDi (HD.out.below HB5.out);clear hL SL b5 HXp4 HSp4;go_wp2_with fail;clear lp l0;refine (lack_any lo ln lc (liveF s) p d _ HSL.out HCl.out HSp5.out (HO.out.below HB5.out) HFd.out.1).mono ?_;rintro e v6 ⟨no,nn,nc,Nw,q,rfl,SN,Sq,b6,hN1,hQf,hQ⟩;obtain ⟨gq,hgq⟩:∃ g,v6.heap.size=g:=⟨_,rfl⟩;obtain ⟨w6,hst,X6,B6,-⟩:=madeP v6 q gq hgq;have b66:=b6.trans (B6.mono b6.size);have HB6:=wTr HB5 b66;have HXq:=hide X6;have HSq:=hide (Sq.below B6);have HSN:=hide (SN.below B6);have HXp6:=hide (HXp5.out.below b66);have HSp6:=hide (HSp5.out.below b66);have HNw:=hide hN1;have HQf:=hide hQf;have HQ:=hide hQ;clear SN Sq b6 hN1 hQf hQ X6 B6 b66 HXp5 HSp5 HSL;have c3:=(HX.out.below HB6.out).cs.2
 have lp:=run_ldP HXp6.out.at
 go_wp2_with fail;clear c3 lp hst hgq;refine (keepWaits_any s.ro s.rn s.rc s.rs p _ ((HS.out.ok.row HS.out.row).below HB6.out) HSp6.out (by have:=HU.out.rn;omega)).mono ?_;rintro e w7 (⟨-,-,⟨fo,fn,fc⟩,F,rfl,GF,nF,WF⟩ | ⟨hno,-,-⟩);rotate_left
 ·exact absurd ⟨HFs.out.2.2,HH.out.1⟩ hno
 rw [show HsV ⟨fo,fn,fc⟩=Value.slice fo fn fc from rfl];have HB7:=wTr HB6 GF.below;have HGF:Hid (RcS w7 fo fn fc F/\fn <= fc/\(fo=none -> fc=0)/\fn <= s.rn/\WtOf s.rs p.P F):=⟨GF.src,GF.room,GF.nil,nF,WF⟩;have HXq7:=hide (HXq.out.below GF.below);have HSq7:=hide (HSq.out.below GF.below);have HSN7:=hide (HSN.out.below GF.below);clear GF nF WF HXp6 HSp6 HXq HSq HSN;have A9:=HZ.out.below HB7.out;have st:=run_stFa (m':=mkF ⟨no,nn,nc,Nw,q,fo,fn,fc,F⟩) A9;have HE1:Hid (FaBox (w7.setRow (G+2) (FaC (mkF ⟨no,nn,nc,Nw,q,fo,fn,fc,F⟩))) (G+2) (mkF ⟨no,nn,nc,Nw,q,fo,fn,fc,F⟩)):=A9.setRow
 have HE:Hid (LfE N w (w7.setRow (G+2) (FaC (mkF ⟨no,nn,nc,Nw,q,fo,fn,fc,F⟩))) (.returned (.tuple #[FaV (mkF ⟨no,nn,nc,Nw,q,fo,fn,fc,F⟩),.int .i64 0])) s d):=
  ⟨⟨no,nn,nc,Nw,q,fo,fn,fc,F⟩,0,rfl,⟨FcOk.offF (f:=⟨no,nn,nc,Nw,q,fo,fn,fc,F⟩) ⟨HSN7.out,HSq7.out,HGF.out.1⟩ A9 _,⟨HGF.out.2.1,HGF.out.2.2.1⟩,Nat.le_trans HGF.out.2.2.2.1 HS.out.rn,by
    show nn <= N * 1048576
    have h1:nn=Nw.length:=HSN7.out.1.symm
    have h2:Nw.length <= s.es.length:=by
     rw [HNw.out];unfold liveF;exact Nat.le_trans (List.length_filter_le _ _) (List.length_filter_le _ _)
    have h3:=HS.out.ok.es.1;have h4:=HS.out.an
    omega,wt_clF HGF.out.2.2.2.2 HS.out.cl⟩,below_setRow (HBK.out.trans (HB7.out.mono HBK.out.size)) (by rw [HGs.out];omega),
   .inr ⟨⟨HFs.out,HFd.out⟩,rfl,HNw.out,p.P,HH.out,HQf.out,HQ.out,HGF.out.2.2.2.2⟩⟩
 have st2:(stFa (.pointer (some ⟨G+2,0,none⟩)) (.agg (FaC (mkF ⟨no,nn,nc,[],q,fo,fn,fc,[]⟩)))).run Tryz.prog w7 = .ok () (w7.setRow (G+2) (FaC (mkF ⟨no,nn,nc,Nw,q,fo,fn,fc,F⟩))):=st
 have lq:=run_ldP HXq7.out.at
 clear A9 st;go_wp2_with fail;clear st2 lq;refine bodyPost_ret (res2Fb rfl rfl rfl HE1.out) rfl ?_;exact HE.out
end Go.Proofs.YtjeilkenjdnafaaGreat
namespace Go.Proofs.YtjeilkenjdnafaaGreat.K
open Go.RowKit
theorem OwnE.appRun {B0 B:Nat} {w W:World} {ao:Option Addr} {cap:Nat} {acc:List En} (O:OwnE B0 B w W ao cap acc) (bo:Option Addr) (m c:Nat) (R:List En) (hR:ESrc W bo m c R) (n l:Nat) (hn:acc.length=n) (hl:n+m=l) (hlen:l <= 3518437208883) :
  ∃ a' c' W',(Builtin.append_ #[22,22] 22 #[.slice ao n cap,.slice bo m c]).run Tryz.prog W = .ok (.slice a' l c') W'/\OwnE B0 B w W' a' c' (acc++R)/\(∀ q,q < W.heap.size -> (Value.slice ao n cap).ownBlock≠some q -> W'.heap[q]? = W.heap[q]?)/\((Value.slice a' l c').ownBlock=(Value.slice ao n cap).ownBlock∨(Value.slice a' l c').ownBlock=some W.heap.size)/\W.heap.size <= W'.heap.size:=by
 subst hn hl;obtain ⟨i0,hi,hz0,hz1,hz2⟩:=info_parts info28;have hB:=O.hB;have hB0:=O.hB0
 cases bo with
 | none =>
  obtain ⟨rfl,rfl⟩:=hR.2.1 rfl;obtain rfl:R=[]:=List.eq_nil_of_length_eq_zero hR.1;have hrun:=run_append_owned_none (P:=Tryz.prog) (w:=W) B 22 22 57 i0 4 Tryz.underlying22 hi _ acc.length (ecs acc) O.own;exact ⟨ao,cap,W,hrun,by rw [List.append_nil];exact O,fun _ _ _=>rfl,.inl rfl,Nat.le_refl _⟩
 | some ad =>
  obtain ⟨v',W2,hrun,hown,hgrow,_,hat⟩:=run_append_own_at (P:=Tryz.prog) W B 22 22 57 i0 (.agg #[.int .i64 0,.int .i64 0,.string ⟨#[]⟩,.int .i64 0]) 4 40 Tryz.underlying22 hi hz0 hz1 hz2 rfl (by decide) (.slice ao acc.length cap) acc.length (ecs acc) O.own ad m c (ecs R) (by rw [ecs_length,hR.1]) (fun j u hj=>hR.cells j u hj) (ecs_onecell R) (by unfold maxLen;omega) (by omega) hB;have hrow:∀ k,(Value.slice ao acc.length cap).ownBlock=some k -> B <= k:=fun k hk=>(O.own.lt k hk).1;have hsz:=hgrow.size;have hbel:Below B0 w W2:=O.below.grown hgrow (by omega) (fun k hk=>by have:=hrow k hk;omega);have hm:m=R.length:=hR.1.symm
  have hown2:W2.ownsRow B 57 4 v' (acc++R).length (ecs (acc++R)):=by rw [List.length_append,ecs_append,<- hm];exact hown
  rcases hown.2 with ⟨h0,h00⟩ | ⟨g,cap2,cur,hv,r⟩
  ·subst h0;have e0:acc.length+m=0:=h00;rw [e0];refine ⟨none,0,W2,hrun,⟨?_,hbel,by omega,hB0⟩,fun q hq hn=>hgrow.block q hq (fun e=>hn e.symm),hat,hsz⟩;rw [List.length_append,<- hm,e0] at hown2;rw [List.length_append,<- hm,e0];exact hown2
  ·subst hv;refine ⟨some ⟨g,0,none⟩,cap2,W2,hrun,⟨?_,hbel,by omega,hB0⟩,fun q hq hn=>hgrow.block q hq (fun e=>hn e.symm),hat,hsz⟩;rw [List.length_append,<- hm] at hown2 ⊢;exact hown2
end Go.Proofs.YtjeilkenjdnafaaGreat.K
namespace Go.Proofs.YtjeilkenjdnafaaGreat
section
open Go.RowKit Go.Maps
theorem setCell_rowL {W:World} {g j:Nat} {v:Value} {cs:Array Value} {T:TypeId} {fr:Nat × Nat} (h:W.heap[g]? = some (.cells cs T fr)):W.setCell ⟨g,j,none⟩ v=W.setRow g (cs.setIfInBounds j v):=by
 have hlt:g < W.heap.size:=(Array.getElem?_eq_some_iff.1 h).1;have hv:W.heap[g] = .cells cs T fr:=(Array.getElem?_eq_some_iff.1 h).2;unfold World.setCell World.setRow;simp only;congr 1;apply Array.ext
 ·simp
 ·intro i h1 h2;rw [Array.getElem_modify,Array.getElem_modify]
  split
  ·next e=>subst e;simp [hv]
  ·rfl
theorem setCell2_rowL {W:World} {g i j:Nat} {v u:Value} {cs:Array Value} {T:TypeId} {fr:Nat × Nat} (h:W.heap[g]? = some (.cells cs T fr)):(W.setCell ⟨g,i,none⟩ v).setCell ⟨g,j,none⟩ u=W.setRow g ((cs.setIfInBounds i v).setIfInBounds j u):=by
 have h2:(W.setRow g (cs.setIfInBounds i v)).heap[g]? = some (.cells (cs.setIfInBounds i v) T fr):=setRow_heap W g _ _ _ _ h;rw [setCell_rowL h,setCell_rowL h2,setRow_setRow]
theorem fzL {w:World} {g:Nat} {m:FacV} (h:FaBox w g m) (j:Nat):w.frozen? ⟨g,j,none⟩=false:=by unfold FaBox at h;simp [World.frozen?,h]
theorem cell_frL {W0 W:World} {g:Nat} {a:Addr} {v:Value} (hc:W0.cell? a=some v) (fr:∀ k,k < W0.heap.size -> k≠g -> W.heap[k]? = W0.heap[k]?) (hg:a.block≠g):W.cell? a=some v:=by
 have h:=World.block_lt_of_cell? _ _ hc;unfold World.cell? at hc ⊢;rw [fr _ h hg];exact hc
theorem esrc_frL {W0 W:World} {g:Nat} {m:FacV} {ao:Option Addr} {n cap:Nat} {L:List K.En} (A:FaBox W0 g m) (h:K.ESrc W0 ao n cap L) (fr:∀ k,k < W0.heap.size -> k≠g -> W.heap[k]? = W0.heap[k]?):K.ESrc W ao n cap L:=by
 refine ⟨h.1,h.2.1,fun ad e t ht=>?_,h.2.2.2⟩;have B:=h.2.2.1 ad e t ht;have hb:(ad.add (t * 4)).block≠g:=A.ne B.c0 (fun _ _ _ h=>by cases h);exact ⟨cell_frL B.c0 fr hb,cell_frL B.c1 fr (by rw [block_add];exact hb),cell_frL B.c2 fr (by rw [block_add];exact hb),cell_frL B.c3 fr (by rw [block_add];exact hb)⟩
theorem szPastL:(Tryz.prog.info? 26).map (·.size)=some 2:=by kernel_rfl
theorem run_stPL9 {w:World} {g:Nat} {f:Fc} (p:Pv) (A:FaBox w g (mkF f)):(stP (.pointer (some ⟨g,1,none⟩)) (PV p)).run Tryz.prog w = .ok () (w.setRow g (FaC (mkF ⟨f.ao,f.an,f.ac,f.es,p,f.ro,f.rn,f.rc,f.rs⟩))):=by
 have ht:w.there g 1 (PC p).size:=fun j hj=>by
  have hj:j < 2:=hj;refine ⟨?_,fzL A _⟩;rcases (show j=0∨j=1 by omega) with rfl | rfl
  ·rw [Nat.add_zero,A.c1];rfl
  ·rw [show 1+1=2 from rfl,A.c2];rfl
 refine (run_storeAt_mid (P:=Tryz.prog) w g 1 26 (PC p) ht szPastL (by simp [PC,Value.oneCell'])).trans ?_;exact congrArg (Result.ok ()) (setCell2_rowL A)
theorem ownE_setL {B0 B:Nat} {w W:World} {a:Option Addr} {c:Nat} {acc:List K.En} (O:K.OwnE B0 B w W a c acc) {g:Nat} {cs:Array Value} (h1:B0 <= g) (h2:g < B):K.OwnE B0 B w (W.setRow g cs) a c acc:=by
 refine ⟨⟨O.own.1,?_⟩,below_setRow O.below h1,by simp [World.setRow];exact O.hB,O.hB0⟩;rcases O.own.2 with h | ⟨g',cap2,cur,hv,hbg,hgg,r⟩
 ·exact Or.inl h
 ·exact Or.inr ⟨g',cap2,cur,hv,hbg,(setRow_other _ _ _ _ (by omega)).trans hgg,r⟩
def CdL (wk w1:World) (g:Nat) (W:World):Prop:=Below wk.heap.size wk W/\∀ x,x < w1.heap.size -> x≠g -> W.heap[x]? = w1.heap[x]?
structure LaP (wk w1:World) (g:Nat) (E:List K.En) (P:K.En -> Bool) (k:Nat) (a:Option Addr) (c:Nat) (acc:List K.En) (wr:World):Prop where
 box:FaBox wr g (mkF ⟨a,acc.length,c,acc,pv0,none,0,0,[]⟩)
 own:K.OwnE wk.heap.size w1.heap.size wk wr a c acc
 eq:acc=(E.take k).filter P
 fr:∀ x,x < w1.heap.size -> x≠g -> wr.heap[x]? = w1.heap[x]?
variable {wk w1 wr W W2 : World} {g : Nat} {E : List K.En} {P : K.En -> Bool} {k : Nat} {a a2 : Option Addr} {c c2 : Nat} {acc : List K.En} {e : K.En}
theorem LaP.cd (I:LaP wk w1 g E P k a c acc wr):CdL wk w1 g wr:=⟨I.own.below,I.fr⟩
theorem LaP.len (I:LaP wk w1 g E P k a c acc wr):acc.length <= k:=by
 rw [I.eq];exact Nat.le_trans (List.length_filter_le _ _) (by rw [List.length_take];omega)
theorem LaP.later (I:LaP wk w1 g E P k a c acc wr) (hb:Below wr.heap.size wr W):LaP wk w1 g E P k a c acc W:=
 ⟨I.box.below hb,I.own.later hb,I.eq,fun x h1 h2=>(hb.block x (Nat.lt_of_lt_of_le h1 I.own.hB)).trans (I.fr x h1 h2)⟩
theorem LaP.skip (I:LaP wk w1 g E P k a c acc wr) (hk:k < E.length) (he:E.getD k K.en0=e) (hm:P e=false):LaP wk w1 g E P (k+1) a c acc wr:=by
 refine ⟨I.box,I.own,?_,I.fr⟩;rw [takeE3 _ _ hk,he,List.filter_append,<- I.eq,List.filter_cons_of_neg (by simp [hm]),List.filter_nil,List.append_nil]
theorem LaP.app (I:LaP wk w1 g E P k a c acc wr) (e:K.En) (hs:e.sku.size <= maxLen) (hl:acc.length < 3518437208883) :
  ∃ a' c' W',(Builtin.append_ #[22,22] 22 #[.slice a acc.length c,.slice (some ⟨wr.heap.size,0,none⟩) 1 1]).run Tryz.prog (wr.alloc (.cells (K.EC e) 57)) = .ok (.slice a' (acc.length+1) c') W'/\K.OwnE wk.heap.size w1.heap.size wk W' a' c' (acc++[e])/\(∀ q,q < wr.heap.size -> (Value.slice a acc.length c).ownBlock≠some q -> W'.heap[q]? = wr.heap[q]?):=by
 have b1:=below_new wr (.cells (K.EC e) 57);have hL:=K.lit_esrc wr [e] (K.EC e) (by simp) 57 1 rfl (fun x hx=>by rw [List.mem_singleton.1 hx];exact hs) (by decide);obtain ⟨a',c',W',hr,O',hk,-,-⟩:=(I.own.later b1).appRun _ 1 1 _ hL acc.length (acc.length+1) rfl rfl (by omega);exact ⟨a',c',W',hr,O',fun q hq hn=>(hk q (by simp;omega) hn).trans (Below.heap_alloc wr _ q hq)⟩
theorem LaP.appCd (I:LaP wk w1 g E P k a c acc wr) (O2:K.OwnE wk.heap.size w1.heap.size wk W2 a2 c2 (acc++[e])) (hk:∀ q,q < wr.heap.size -> (Value.slice a acc.length c).ownBlock≠some q -> W2.heap[q]? = wr.heap[q]?):CdL wk w1 g W2:=
 ⟨O2.below,fun y h1 h3=>(hk y (Nat.lt_of_lt_of_le h1 I.own.hB) (fun e=>by have:=(I.own.own.lt _ e).1;omega)).trans (I.fr y h1 h3)⟩
theorem LaP.next (I:LaP wk w1 g E P k a c acc wr) (hg:wk.heap.size <= g) (hg1:g < w1.heap.size) (O2:K.OwnE wk.heap.size w1.heap.size wk W2 a2 c2 (acc++[e]))
  (hk:∀ q,q < wr.heap.size -> (Value.slice a acc.length c).ownBlock≠some q -> W2.heap[q]? = wr.heap[q]?) (hkl:k < E.length) (he:E.getD k K.en0=e) (hm:P e=true) :
  FaBox W2 g (mkF ⟨a,acc.length,c,acc,pv0,none,0,0,[]⟩)/\LaP wk w1 g E P (k+1) a2 c2 (acc++[e]) (W2.setCell ⟨g,0,none⟩ (.slice a2 (acc.length+1) c2)):=by
 have X2:FaBox W2 g (mkF ⟨a,acc.length,c,acc,pv0,none,0,0,[]⟩):=(hk g I.box.lt (fun e=>by have:=(I.own.own.lt _ e).1;omega)).trans I.box
 have hl:(acc++[e]).length=acc.length+1:=by simp
 have e1:W2.setCell ⟨g,0,none⟩ (.slice a2 (acc.length+1) c2)=W2.setRow g (FaC (mkF ⟨a2,(acc++[e]).length,c2,acc++[e],pv0,none,0,0,[]⟩)):=by rw [hl];exact setCell_rowL X2
 rw [e1];refine ⟨X2,X2.setRow,ownE_setL O2 hg hg1,?_,fun y h1 h3=>?_⟩
 ·rw [takeE3 _ _ hkl,he,List.filter_append,<- I.eq,List.filter_cons_of_pos hm,List.filter_nil]
 ·exact (setRow_other _ _ _ _ h3).trans ((I.appCd O2 hk).2 y h1 h3)
def MtD (a b q:Pst):Prop:=∃ C:Nat -> List Rn,(∀ r,r < 16 -> MeetOf (runsAt a r) (runsAt b r) (C r))/\CanonOf C q
theorem MtD.inB {a b q:Pst} (h:MtD a b q) (e:K.En):inB q e=true↔inB a e=true/\inB b e=true:=by
 obtain ⟨C,hC,hq⟩:=h;by_cases h0:0 <= e.rep/\e.rep < 16
 ·rw [inB_mem h0,inB_mem h0,inB_mem h0,canon_mem hq _ (by omega),(hC _ (by omega)).2 e.num]
 ·constructor
  ·intro h;exact absurd (inB_isR h) h0
  ·intro h;exact absurd (inB_isR h.1) h0
theorem MtD.form {a b q:Pst} (h:MtD a b q):InForm q:=by
 obtain ⟨C,-,hq⟩:=h;exact canon_iff.1 hq.canon
def DdD (L:List K.En) (P m:Pst):Prop:=∃ q,CanonOf (dotsG (L.map dotOf)) q/\MnD P q m
theorem DdD.inB {L:List K.En} {P m:Pst} (h:DdD L P m) (e:K.En):Go.Proofs.YtjeilkenjdnafaaGreat.inB m e=true↔Go.Proofs.YtjeilkenjdnafaaGreat.inB P e=true/\¬ ∃ x∈L,dotOf x=dotOf e:=by
 obtain ⟨q,h1,h2⟩:=h;rw [h2.inB];refine and_congr_right fun hp=>not_congr ?_;rw [ds_inB h1];exact ⟨fun h=>h.2,fun h=>⟨inB_okDS hp,h⟩⟩
theorem lf_of {f:Fc} {d:Dg} {H m:Pst} {nw th j:Pv} {ao:Option Addr} {n cp:Nat} {E:List K.En} {hs:Hs} {F:List Rc} (hE:E=(liveF f).filter (pkB d.h.P false)) (hH:HeardOf f H) (hm:DdD (liveF f) H m) (hn:MnD m d.h.P nw.P) (ht:MtD m d.l.P th.P) (hj:CanonOf (runsOf [nw,th]) j.P) (hF:WtOf f.rs H F):LfD f d ⟨ao,n,cp,E,j,hs.o,hs.n,hs.c,F⟩:=by
 refine ⟨hE,H,hH,canon_iff.1 hj.canon,fun e=>?_,hF⟩
 show inB j.P e=true↔_
 rw [canon_or hj,hn.inB,ht.inB,hm.inB];unfold goneE;by_cases h1:inB d.h.P e=true <;> by_cases h2:inB d.l.P e=true <;> simp [h1,h2]
theorem boxFDFF (w:World) (s:Fc) (d:Dg):∃ wk,((w.alloc (.cells (FaC (mkF s)) 29)).alloc (.cells (DiC (mkD d)) 33)).alloc (.cells (FaC (mkF fz0)) 29)=wk/\wk.heap.size=w.heap.size+3/\FaBox (wk.alloc (.cells (FaC (mkF fz0)) 29)) (w.heap.size+3) (mkF fz0)/\Hid (FaBox wk w.heap.size (mkF s))/\Hid (DiBox wk (w.heap.size+1) (mkD d))/\Hid (FaBox wk (w.heap.size+2) (mkF fz0))/\Hid (Below w.heap.size w wk):=by
 obtain ⟨wk,hwk,h1,h2,h3,h4⟩:=boxFDF w s d
 have hs:wk.heap.size=w.heap.size+3:=by rw [<- hwk];simp
 have X:=FaBox_new wk (mkF fz0);rw [hs] at X;exact ⟨wk,hwk,hs,X,h1,h2,h3,h4⟩
def bsEl (a:Array (Nat × Value)):Sem Value:=Instr.buildSlice 22 1 a
theorem bsEl_eq (a:Array (Nat × Value)):Instr.buildSlice 22 1 a=bsEl a:=rfl
theorem run_bsEl (e:K.En) (w:World):(bsEl #[(0,K.EV e)]).run Tryz.prog w = .ok (.slice (some ⟨w.heap.size,0,none⟩) 1 1) (w.alloc (.cells (K.EC e) 57)):=by kernel_rfl
attribute [local go_sem ↓] ldP_eq stP_eq ldDi_eq stDi_eq ldFa_eq stFa_eq ldD_eq stD_eq K.ld28_eq K.st28_eq bsPs_eq bsEl_eq run_bsEl
attribute [local go_sem] cells_PV PC_size zero_PC cells_DiV DiC_size cells_FaV FaC_size zero_FaZ cells_RV RC_size zero_RC fold_RC K.zero_EC K.cells_EV K.EC_size K.fold_EC run_bsPs
theorem refLack14_any (f:Fc) (d:Dg) (w:World) (hF:FcOk w f) (hFo:FormF f) (hd:DgOk w d):Calls Tryz.prog 43 #[FaV (mkF f),DiV (mkD d)] w fun e w'=>SwS w w' e (fun l=>LfD f d l/\FcR l):=by
 obtain ⟨wk,hwk,hsk,X5,HX,HD,HZ,HBK⟩:=boxFDFF w f d;have b5:=below_new wk (.cells (FaC (mkF fz0)) 29);obtain ⟨w5,hw5⟩:∃ w5,wk.alloc (.cells (FaC (mkF fz0)) 29)=w5:=⟨_,rfl⟩;rw [hw5] at X5 b5;obtain ⟨G,hG0⟩:∃ G,w.heap.size=G:=⟨_,rfl⟩;rw [hG0] at HX HD HZ X5 hsk;have HGs:Hid (w.heap.size=G):=hG0;have HKs:Hid (wk.heap.size=G+3):=hsk;have HX5:=hide X5;have HB5:=hide b5;have HF:=hide (hF.below HBK.out);have HFo:=hide hFo;have HO:=hide (hd.below HBK.out);clear hF hFo hd X5 b5;have l0:=run_ldFa (HX.out.below HB5.out);go_enter Tryz.func43,Tryz.ntmps43;go_wp2_with fail;clear hwk hw5 hG0 hsk l0;refine (refLive11_any f _ (HF.out.below HB5.out)).mono ?_;rintro x w2 ⟨lo,ln,lc,rfl,SL,b2⟩;have HSL:Hid (K.ESrc w2 lo ln lc (liveF f)):=SL;have HB2:=wTr HB5 b2;have HX2:=hide (HX5.out.below b2);have HG5:Hid (wk.heap.size <= G+3/\G+3 < w2.heap.size):=⟨by rw [HKs.out];omega,HX2.out.lt⟩
 have HLn:Hid ((liveF f).length=ln):=HSL.out.1;have HI0:Hid (LaP wk w2 (G+3) (liveF f) (pkB d.h.P false) 0 none 0 [] w2):=⟨HX2.out,K.OwnE.nil HB2.out (Nat.le_refl _) HB2.out.size,rfl,fun _ _ _=>rfl⟩;have hnb:=HSL.out.2.2.2.2;clear SL b2;go_wp2_with fail;go_loopw [7] (fun i wr=>∃ (k:Nat) (a:Option Addr) (c:Nat) (acc:List K.En),k <= ln/\i = .int .i64 (k:Int)/\Hid (LaP wk w2 (G+3) (liveF f) (pkB d.h.P false) k a c acc wr)) (fun i _=>ln - (intOf i).toNat)
 case atStart=>exact ⟨0,none,0,[],Nat.zero_le _,rfl,HI0.out⟩
 case round =>
  obtain ⟨k,a,c,acc,hk,rfl,HI⟩:=hrel
  rename World=>wr
  by_cases hlt:k < ln
  ·have hlti:(k:Int) < (ln:Int):=by omega
   obtain ⟨ad,hao,-⟩:=HSL.out.at k hlt;obtain ⟨e,He⟩:∃ e,Hid ((liveF f).getD k K.en0=e):=⟨_,rfl⟩;subst hao;have Hlt:=hide hlt
   have Hsz:Hid (e.sku.size <= maxLen):=by rw [<- He.out];exact HSL.out.2.2.2.1 _ (getE_mem (by rw [HLn.out];exact hlt))
   have HEn:Hid (∀ W,CdL wk w2 (G+3) W -> K.EnAt W (ad.add (k * 4)) e):=fun W hW=>by
    obtain ⟨ad',he',h⟩:=(esrc_frL HX2.out HSL.out hW.2).at k Hlt.out;obtain rfl:=Option.some.inj he';rw [He.out] at h;exact h
   have HS6:Hid (∀ W,CdL wk w2 (G+3) W -> (ldP (.pointer (some ⟨G+1,0,none⟩))).run Tryz.prog W = .ok (PV d.h) W/\(ldD (.pointer (some (ad.add (k * 4))))).run Tryz.prog W = .ok (RV (dotOf e)) W):=fun W hW=>by
    have A:=HEn.out W hW;exact ⟨run_ldP (HD.out.below hW.1).heard,run_ldD (r:=dotOf e) ⟨A.c0,A.c1⟩⟩
   have HS7:Hid (∀ W,CdL wk w2 (G+3) W -> (K.ld28 (.pointer (some (ad.add (k * 4))))).run Tryz.prog W = .ok (K.EV e) W):=fun W hW=>K.run_ld28 (HEn.out W hW);have HI6:=hide (HI.out.later (below_drew1 wr));clear hlt hk HI;go_upto_region 6 with fail;refine wp_region_held_drew (S:=fun W=>(ldP (.pointer (some ⟨G+1,0,none⟩))).run Tryz.prog W = .ok (PV d.h) W/\(ldD (.pointer (some (ad.add (k * 4))))).run Tryz.prog W = .ok (RV (dotOf e)) W) (by kernel_rfl) (HS6.out _ HI6.out.cd) (fun hHeld=>?_);refine wU 0 ?_;refine wU 1 ?_;refine wU 2 ?_;refine wU 3 ?_;refine wU 4 ?_;refine wU 5 ?_;refine wU 6 ?_;refine wpAnyH_ready (rs:=[7]) (by kernel_rfl) (by simp) (.cons rfl (fun K hK=>?_) .nil);go_simp;go_wp2_with fail;refine (refHas_any d.h (dotOf e) _ (HO.out.1.below HI6.out.own.below)).mono ?_;rintro x w7 ⟨y,rfl,hy,b7⟩
   obtain rfl:y=inB d.h.P e:=by rw [Bool.eq_iff_iff,inB_iff];exact hy.out
   have HI7:=hide (HI6.out.later b7);clear hy b7;refine hK.out _ _ (HS6.out _ HI7.out.cd) (fun hHeld=>?_);clear hK K;refine wU 8 ?_;refine wpAnyH_done (by kernel_rfl) ?_ _;clear hHeld
   have hlti:(k:Int) < (ln:Int):=by have:=Hlt.out;omega
   obtain ⟨b,hb⟩:∃ b,inB d.h.P e=b:=⟨_,rfl⟩;have Hb:=hide hb;rw [hb];clear hb
   cases b with
   | true =>
    have HN:=hide (HI7.out.skip (by rw [HLn.out];exact Hlt.out) He.out (by unfold pkB;rw [Hb.out];rfl));go_wp2_with fail;go_roundw
    case rel=>exact ⟨k+1,a,c,acc,Hlt.out,by simp,HN.out⟩
    case measure=>simp [intOf];have:=Hlt.out;omega
   | false =>
    have Hpk:Hid (pkB d.h.P false e=true):=by show _=_;unfold pkB;rw [Hb.out];rfl
    go_upto_region 7 with fail;obtain ⟨u0,hu0⟩:∃ u,w7.drew=u:=⟨_,rfl⟩;have HI8:=hide (HI7.out.later (below_drew1 w7));refine wp_region_held_drew (S:=fun W=>(K.ld28 (.pointer (some (ad.add (k * 4))))).run Tryz.prog W = .ok (K.EV e) W) (by kernel_rfl) (HS7.out _ HI8.out.cd) (fun hHeld=>?_);rw [hu0] at HI8 hHeld ⊢;clear hu0;refine wU 0 ?_;refine wU 2 ?_;refine wU 3 ?_;refine wU 4 ?_;refine wU 5 ?_;refine wpAnyH_ready (rs:=[1,6]) (by kernel_rfl) (by simp) ?_;refine AllReadyH.cons rfl (fun K hK=>?_) (AllReadyH.cons rfl (fun K hK=>?_) AllReadyH.nil)
    ·have d1:=HI8.out.box.cs.1;go_simp;refine hK.out _ _ (HS7.out _ HI8.out.cd) (fun hHeld=>?_);clear hK K;clear d1;refine wpAnyH_ready (rs:=[6]) (by kernel_rfl) (by simp) (.cons rfl (fun K hK=>?_) .nil);obtain ⟨u7,hu7⟩:∃ u,u0.alloc (.cells (Go.Proofs.YtjeilkenjdnafaaGreat.K.EC e) 57)=u:=⟨_,rfl⟩;have HJ7:=hide (HI8.out.later (below_new u0 (.cells (Go.Proofs.YtjeilkenjdnafaaGreat.K.EC e) 57)));rw [hu7] at HJ7;go_simp;refine hK.out _ _ (HS7.out _ HJ7.out.cd) (fun hHeld=>?_);clear hK K;refine wpAnyH_ready (rs:=[7]) (by kernel_rfl) (by simp) (.cons rfl (fun K hK=>?_) .nil);obtain ⟨a8,c8,u8,r8,O8,k8⟩:=HI8.out.app e Hsz.out (by have:=HI8.out.len;have:=Hlt.out;omega);obtain ⟨X8,N8⟩:=HI8.out.next HG5.out.1 HG5.out.2 O8 k8 (by rw [HLn.out];exact Hlt.out) He.out Hpk.out;have HN:=hide N8;have hc8:=FaBox.c0 X8;have hf8:=fzL X8 0;have HB8:=hide (HI8.out.appCd O8 k8)
     rw [hu7] at r8;refine step_appM (by rfl) (.tmp 30) (.tmp 35) (by rfl) (by rfl) (by rfl) r8 ?_;refine hK.out _ _ (HS7.out _ HB8.out) (fun hHeld=>?_);clear hK K;clear r8 O8 k8 X8 N8;refine wU 8 ?_;refine wpAnyH_ready (rs:=[9]) (by kernel_rfl) (by simp) (.cons rfl (fun K hK=>?_) .nil);go_simp;refine hK.out _ _ (HS7.out _ HN.out.cd) (fun hHeld=>?_);clear hK K;refine wpAnyH_done (by kernel_rfl) ?_ _;clear hHeld;clear hc8 hf8;go_wp2_with fail;go_roundw
     case rel=>exact ⟨k+1,_,_,_,Hlt.out,by simp,HN.out⟩
     case measure=>simp [intOf];have:=Hlt.out;omega
    ·obtain ⟨u7,hu7⟩:∃ u,u0.alloc (.cells (Go.Proofs.YtjeilkenjdnafaaGreat.K.EC e) 57)=u:=⟨_,rfl⟩;have HJ7:=hide (HI8.out.later (below_new u0 (.cells (Go.Proofs.YtjeilkenjdnafaaGreat.K.EC e) 57)));rw [hu7] at HJ7;go_simp;refine hK.out _ _ (HS7.out _ HJ7.out.cd) (fun hHeld=>?_);clear hK K;refine wpAnyH_ready (rs:=[1]) (by kernel_rfl) (by simp) (.cons rfl (fun K hK=>?_) .nil);have d5:=HJ7.out.box.cs.1;go_simp;refine hK.out _ _ (HS7.out _ HJ7.out.cd) (fun hHeld=>?_);clear hK K;clear d5;refine wpAnyH_ready (rs:=[7]) (by kernel_rfl) (by simp) (.cons rfl (fun K hK=>?_) .nil);obtain ⟨a8,c8,u8,r8,O8,k8⟩:=HI8.out.app e Hsz.out (by have:=HI8.out.len;have:=Hlt.out;omega);obtain ⟨X8,N8⟩:=HI8.out.next HG5.out.1 HG5.out.2 O8 k8 (by rw [HLn.out];exact Hlt.out) He.out Hpk.out;have HN:=hide N8;have hc8:=FaBox.c0 X8;have hf8:=fzL X8 0;have HB8:=hide (HI8.out.appCd O8 k8)
     rw [hu7] at r8;refine step_appM (by rfl) (.tmp 30) (.tmp 35) (by rfl) (by rfl) (by rfl) r8 ?_;refine hK.out _ _ (HS7.out _ HB8.out) (fun hHeld=>?_);clear hK K;clear r8 O8 k8 X8 N8;refine wU 8 ?_;refine wpAnyH_ready (rs:=[9]) (by kernel_rfl) (by simp) (.cons rfl (fun K hK=>?_) .nil);go_simp;refine hK.out _ _ (HS7.out _ HN.out.cd) (fun hHeld=>?_);clear hK K;refine wpAnyH_done (by kernel_rfl) ?_ _;clear hHeld;clear hc8 hf8;go_wp2_with fail;go_roundw
     case rel=>exact ⟨k+1,_,_,_,Hlt.out,by simp,HN.out⟩
     case measure=>simp [intOf];have:=Hlt.out;omega
  ·have hlti:¬ (k:Int) < (ln:Int):=by omega
   have HE8:Hid (acc=(liveF f).filter (pkB d.h.P false)):=by
    show _=_
    rw [HI.out.eq,List.take_of_length_le (by rw [HLn.out];omega)]
   have HA8:Hid (K.ESrc wr a acc.length c acc):=(HI.out.own.src (fun e he=>HSL.out.2.2.2.1 e (by rw [HE8.out] at he;exact (List.mem_filter.1 he).1)) (by have:=HI.out.len;omega)).1;have HL8:Hid (K.ESrc wr lo ln lc (liveF f)):=esrc_frL HX2.out HSL.out HI.out.fr;have HB8:=hide HI.out.own.below;have HX8:=hide HI.out.box;have HG8:=hide (Nat.lt_of_lt_of_le HG5.out.2 HI.out.own.hB);clear HI;have l0:=run_ldFa (HX.out.below HB8.out);go_wp2_with fail;clear l0;refine (refHeard_any f _ (HF.out.below HB8.out) HFo.out).mono ?_;rintro x v9 ⟨p,rfl,Sp,-,b9,hh⟩;obtain ⟨g8,hg8⟩:∃ g,v9.heap.size=g:=⟨_,rfl⟩;obtain ⟨w9,hst,X9,B9,-⟩:=madeP v9 p g8 hg8;have b99:=b9.trans (B9.mono b9.size);have HB9:=wTr HB8 b99;have HP9:=hide X9;have HSp9:=hide (Sp.below B9);have HL9:=hide (HL8.out.below b99);have HA9:=hide (HA8.out.below b99);have HX9:=hide (HX8.out.below b99)
   have HH:=hide hh
   have HG9:Hid (G+3 < g8):=by have h1:=HX8.out.lt;have h2:=b9.size;show _ < _;omega
   have HSt:Hid (∀ W,PBox W g8 p -> (ldP (.pointer (some ⟨g8,0,none⟩))).run Tryz.prog W = .ok (PV p) W):=fun W h=>run_ldP h.at
   clear Sp b9 hh X9 B9 b99;go_upto_region 9 with fail;clear hst hg8 hlti
   go_cut [9] from 12 to 62 (fun u wx=>∃ (gz:Nat) (m:Pv),u = .pointer (some ⟨gz,0,none⟩)/\Hid (PBox wx gz m/\PSrc wx m/\Below w9.heap.size w9 wx)/\Hid (DdD (liveF f) p.P m.P))
   case first =>
    obtain ⟨v0,hv0⟩:∃ v,w9.drew=v:=⟨_,rfl⟩
    have H0:Hid (Below w9.heap.size w9 v0):=by rw [<- hv0];exact below_drew1 w9
    refine wp_region_held_drew (S:=fun W=>(ldP (.pointer (some ⟨g8,0,none⟩))).run Tryz.prog W = .ok (PV p) W) (by kernel_rfl) (HSt.out _ (HP9.out.below (below_drew1 w9))) (fun hHeld=>?_);rw [hv0] at hHeld ⊢;clear hv0;refine wU 0 ?_;refine wU 1 ?_;refine wpAnyH_ready (rs:=[2,4]) (by kernel_rfl) (by simp) ?_;refine AllReadyH.cons rfl (fun K hK=>?_) (AllReadyH.cons rfl (fun K hK=>?_) AllReadyH.nil)
    ·go_simp;go_wp2_with fail;refine (refDots8_any lo ln lc _ ⟨#[]⟩ (-1) _ (HL9.out.below H0.out)).mono ?_;rintro x v1 ⟨q,rfl,S1,-,bb1,C1⟩;rw [dsB_all] at C1;have Q1:=hide S1;have HCq:Hid (CanonOf (dotsG ((liveF f).map dotOf)) q.P):=C1;have H1:=wTr H0 bb1;clear S1 C1 bb1;refine hK.out _ _ (HSt.out _ (HP9.out.below H1.out)) (fun hHeld=>?_);clear hK K;refine wpAnyH_ready (rs:=[3,4]) (by kernel_rfl) (by simp) ?_;refine AllReadyH.cons rfl (fun K hK=>?_) (AllReadyH.cons rfl (fun K hK=>?_) AllReadyH.nil)
     ·go_simp;go_wp2_with fail;refine (refMinus_any p q _ (HSp9.out.below H1.out) Q1.out).mono ?_;rintro x v2 ⟨m,rfl,S2,-,bb2,C2⟩;have M2:=hide S2;have HCm:Hid (MnD p.P q.P m.P):=C2;have H2:=wTr H1 bb2;have Q2:=hide (Q1.out.below bb2);clear S2 C2 bb2;refine hK.out _ _ (HSt.out _ (HP9.out.below H2.out)) (fun hHeld=>?_);clear hK K;refine wpAnyH_ready (rs:=[4]) (by kernel_rfl) (by simp) (.cons rfl (fun K hK=>?_) .nil);have bb3:=below_new v2 (.cells (PC pv0) 26);have Z3:=pbox_new v2 pv0;obtain ⟨v3,hv3⟩:∃ v,v2.alloc (.cells (PC pv0) 26)=v:=⟨_,rfl⟩;obtain ⟨gz,hg3⟩:∃ g,v2.heap.size=g:=⟨_,rfl⟩;go_simp;rw [hv3] at bb3 Z3;rw [hg3] at Z3;have X3:=hide Z3;have H3:=wTr H2 bb3
      have Hgz:Hid (w9.heap.size <= gz):=by rw [<- hg3];exact H2.out.size
      have Q3:=hide (Q2.out.below bb3);have M3:=hide (M2.out.below bb3)
      try rw [hv3]
      try rw [hg3]
      refine hK.out _ _ (HSt.out _ (HP9.out.below H3.out)) (fun hHeld=>?_);clear hK K;clear bb3 Z3 hv3 hg3;have st:=run_stP (p':=m) X3.out;have HJ:Hid (PBox (v3.setRow gz (PC m)) gz m/\PSrc (v3.setRow gz (PC m)) m/\Below w9.heap.size w9 (v3.setRow gz (PC m))):=⟨setRow_heap _ _ _ _ _ _ X3.out,psrc_offP X3.out M3.out _,below_setRow H3.out Hgz.out⟩;refine wpAnyH_ready (rs:=[5]) (by kernel_rfl) (by simp) (.cons rfl (fun K hK=>?_) .nil);go_simp;refine hK.out _ _ (HSt.out _ (HP9.out.below HJ.out.2.2)) (fun hHeld=>?_);clear hK K st;refine wpAnyH_done (by kernel_rfl) ?_ _;clear hHeld;go_wp2_with fail;go_meet;exact ⟨gz,m,rfl,HJ,⟨q.P,HCq.out,HCm.out⟩⟩
     ·have bb4:=below_new v1 (.cells (PC pv0) 26);have Z4:=pbox_new v1 pv0;obtain ⟨v4,hv4⟩:∃ v,v1.alloc (.cells (PC pv0) 26)=v:=⟨_,rfl⟩;obtain ⟨gz,hg4⟩:∃ g,v1.heap.size=g:=⟨_,rfl⟩;go_simp;rw [hv4] at bb4 Z4;rw [hg4] at Z4;have X4:=hide Z4;have H4:=wTr H1 bb4
      have Hgz:Hid (w9.heap.size <= gz):=by rw [<- hg4];exact H1.out.size
      have Q4:=hide (Q1.out.below bb4)
      try rw [hv4]
      try rw [hg4]
      refine hK.out _ _ (HSt.out _ (HP9.out.below H4.out)) (fun hHeld=>?_);clear hK K;clear bb4 Z4 hv4 hg4;refine wpAnyH_ready (rs:=[3]) (by kernel_rfl) (by simp) (.cons rfl (fun K hK=>?_) .nil);go_simp;go_wp2_with fail;refine (refMinus_any p q _ (HSp9.out.below H4.out) Q4.out).mono ?_;rintro x v5 ⟨m,rfl,S5,-,bb5,C5⟩;have M5:=hide S5;have HCm:Hid (MnD p.P q.P m.P):=C5;have H5:=wTr H4 bb5;have Q5:=hide (Q4.out.below bb5);have X5:=hide (X4.out.below bb5);clear S5 C5 bb5;refine hK.out _ _ (HSt.out _ (HP9.out.below H5.out)) (fun hHeld=>?_);clear hK K;have st:=run_stP (p':=m) X5.out;have HJ:Hid (PBox (v5.setRow gz (PC m)) gz m/\PSrc (v5.setRow gz (PC m)) m/\Below w9.heap.size w9 (v5.setRow gz (PC m))):=⟨setRow_heap _ _ _ _ _ _ X5.out,psrc_offP X5.out M5.out _,below_setRow H5.out Hgz.out⟩;refine wpAnyH_ready (rs:=[5]) (by kernel_rfl) (by simp) (.cons rfl (fun K hK=>?_) .nil)
      go_simp;refine hK.out _ _ (HSt.out _ (HP9.out.below HJ.out.2.2)) (fun hHeld=>?_);clear hK K st;refine wpAnyH_done (by kernel_rfl) ?_ _;clear hHeld;go_wp2_with fail;go_meet;exact ⟨gz,m,rfl,HJ,⟨q.P,HCq.out,HCm.out⟩⟩
    ·have bb6:=below_new v0 (.cells (PC pv0) 26);have Z6:=pbox_new v0 pv0;obtain ⟨v6,hv6⟩:∃ v,v0.alloc (.cells (PC pv0) 26)=v:=⟨_,rfl⟩;obtain ⟨gz,hg6⟩:∃ g,v0.heap.size=g:=⟨_,rfl⟩;go_simp;rw [hv6] at bb6 Z6;rw [hg6] at Z6;have X6:=hide Z6;have H6:=wTr H0 bb6
     have Hgz:Hid (w9.heap.size <= gz):=by rw [<- hg6];exact H0.out.size
     try rw [hv6]
     try rw [hg6]
     refine hK.out _ _ (HSt.out _ (HP9.out.below H6.out)) (fun hHeld=>?_);clear hK K;clear bb6 Z6 hv6 hg6;refine wpAnyH_ready (rs:=[2]) (by kernel_rfl) (by simp) (.cons rfl (fun K hK=>?_) .nil);go_simp;go_wp2_with fail;refine (refDots8_any lo ln lc _ ⟨#[]⟩ (-1) _ (HL9.out.below H6.out)).mono ?_;rintro x v7 ⟨q,rfl,S7,-,bb7,C7⟩;rw [dsB_all] at C7;have Q7:=hide S7;have HCq:Hid (CanonOf (dotsG ((liveF f).map dotOf)) q.P):=C7;have H7:=wTr H6 bb7;have X7:=hide (X6.out.below bb7);clear S7 C7 bb7;refine hK.out _ _ (HSt.out _ (HP9.out.below H7.out)) (fun hHeld=>?_);clear hK K;refine wpAnyH_ready (rs:=[3]) (by kernel_rfl) (by simp) (.cons rfl (fun K hK=>?_) .nil);go_simp;go_wp2_with fail;refine (refMinus_any p q _ (HSp9.out.below H7.out) Q7.out).mono ?_;rintro x v8 ⟨m,rfl,S8,-,bb8,C8⟩;have M8:=hide S8;have HCm:Hid (MnD p.P q.P m.P):=C8;have H8:=wTr H7 bb8
     have Q8:=hide (Q7.out.below bb8);have X8:=hide (X7.out.below bb8);clear S8 C8 bb8;refine hK.out _ _ (HSt.out _ (HP9.out.below H8.out)) (fun hHeld=>?_);clear hK K;have st:=run_stP (p':=m) X8.out;have HJ:Hid (PBox (v8.setRow gz (PC m)) gz m/\PSrc (v8.setRow gz (PC m)) m/\Below w9.heap.size w9 (v8.setRow gz (PC m))):=⟨setRow_heap _ _ _ _ _ _ X8.out,psrc_offP X8.out M8.out _,below_setRow H8.out Hgz.out⟩;refine wpAnyH_ready (rs:=[5]) (by kernel_rfl) (by simp) (.cons rfl (fun K hK=>?_) .nil);go_simp;refine hK.out _ _ (HSt.out _ (HP9.out.below HJ.out.2.2)) (fun hHeld=>?_);clear hK K st;refine wpAnyH_done (by kernel_rfl) ?_ _;clear hHeld;go_wp2_with fail;go_meet;exact ⟨gz,m,rfl,HJ,⟨q.P,HCq.out,HCm.out⟩⟩
   case rest =>
    obtain ⟨gz,m,rfl,HJ,HDd⟩:=hcut
    rename World=>wa
    have HBa:=wTr HB9 HJ.out.2.2;have Hba:=hide HJ.out.2.2
    have l0:=run_ldP HJ.out.1.at
    have l1:=run_ldP (HD.out.below HBa.out).heard;clear HSt;go_wp2_with fail;clear l0 l1;refine (refMinus_any m d.h _ HJ.out.2.1 (HO.out.1.below HBa.out)).mono ?_;rintro e vb ⟨nw,rfl,Sn,-,bb,Cn⟩;obtain ⟨gn,hgn⟩:∃ g,vb.heap.size=g:=⟨_,rfl⟩;obtain ⟨wb,hst,Xn,Bn,-⟩:=madeP vb nw gn hgn;have bbb:=bb.trans (Bn.mono bb.size);have HBb:=wTr HBa bbb;have Hbb:=wTr Hba bbb;have HXn:=hide Xn;have HSn:=hide (Sn.below Bn);have HCn:Hid (MnD m.P d.h.P nw.P):=Cn;have HSm:=hide (HJ.out.2.1.below bbb)
    have l0:=run_ldP (HJ.out.1.below bbb).at
    have l1:=run_ldP (HD.out.below HBb.out).live;clear Sn bb Cn Xn Bn bbb;go_wp2_with fail;clear l0 l1 hst hgn;refine (refMeet_any m d.l _ HSm.out (HO.out.2.below HBb.out)).mono ?_;rintro e vc ⟨th,rfl,St,-,bc,Ct⟩;obtain ⟨gt,hgt⟩:∃ g,vc.heap.size=g:=⟨_,rfl⟩;obtain ⟨wc,hst,Xt,Bt,-⟩:=madeP vc th gt hgt;have bcc:=bc.trans (Bt.mono bc.size);have HBc:=wTr HBb bcc;have Hbc:=wTr Hbb bcc;have HSt:=hide (St.below Bt);have HCt:Hid (MtD m.P d.l.P th.P):=Ct;have HSn':=hide (HSn.out.below bcc)
    have l0:=run_ldP (HXn.out.below bcc).at
    have l1:=run_ldP Xt.at
    have hPR:=prow2 wc nw th HSn'.out HSt.out;have bd:=below_new wc (.cells #[.slice nw.vo nw.vn nw.vc,.slice nw.co nw.cn nw.cc,.slice th.vo th.vn th.vc,.slice th.co th.cn th.cc] 26);have lb:=run_bsPs nw th wc;obtain ⟨gd,hgd⟩:∃ gd,wc.heap.size=gd:=⟨_,rfl⟩;obtain ⟨wd,hwd⟩:∃ wd,wc.alloc (.cells #[.slice nw.vo nw.vn nw.vc,.slice nw.co nw.cn nw.cc,.slice th.vo th.vn th.vc,.slice th.co th.cn th.cc] 26)=wd:=⟨_,rfl⟩;rw [hwd] at hPR bd lb;rw [hgd] at hPR lb;have HPR:=hide hPR;have HBd:=wTr HBc bd;have Hbd:=wTr Hbc bd;clear St bc Ct Xt Bt bcc hPR bd;go_wp2_with fail;clear l0 l1 lb hst hgt hgd hwd;refine (refJoin_any (some ⟨gd,0,none⟩) 2 2 [nw,th] _ HPR.out (bsP2_wt HCn.out.form HCt.out.form) (by decide)).mono ?_;rintro e we ⟨jn,rfl,Sj,-,be,Cj⟩;have HBe:=wTr HBd be;have Hbe:=wTr Hbd be;have HCj:=hide Cj;have A:=HX9.out.below Hbe.out
    have st:=run_stPL9 jn A;obtain ⟨wf,hwf⟩:∃ wf,we.setRow (G+3) (FaC (mkF ⟨a,acc.length,c,acc,jn,none,0,0,[]⟩))=wf:=⟨_,rfl⟩
    replace st:(stP (.pointer (some ⟨G+3,1,none⟩)) (PV jn)).run Tryz.prog we = .ok () wf:=by rw [<- hwf];exact st
    have HXf:Hid (FaBox wf (G+3) (mkF ⟨a,acc.length,c,acc,jn,none,0,0,[]⟩)):=by rw [<- hwf];exact A.setRow
    have HAf:Hid (K.ESrc wf a acc.length c acc):=by rw [<- hwf];exact esrc_offF A (HA9.out.below Hbe.out) _
    have HSj:Hid (PSrc wf jn):=by rw [<- hwf];exact psrc_offF A Sj _
    have HBf:Hid (Below wk.heap.size wk wf):=by rw [<- hwf];exact below_setRow HBe.out HG5.out.1
    have HPf:Hid (PBox wf g8 p):=by rw [<- hwf];exact (setRow_other _ _ _ _ (by have:=HG9.out;omega)).trans (HP9.out.below Hbe.out)
    have HSpf:Hid (PSrc wf p):=by rw [<- hwf];exact psrc_offF A (HSp9.out.below Hbe.out) _
    clear Sj be Cj A hwf;have c3:=(HX.out.below HBf.out).cs.2
    have l0:=run_ldP HPf.out.at
    go_wp2_with fail;clear st c3 l0;refine (refWaits11_any f.ro f.rn f.rc f.rs p _ (HF.out.rs.below HBf.out) HFo.out.2.2 HSpf.out).mono ?_;rintro x wg ⟨h,F,rfl,SF,bg,WF,GR⟩;have HBg:=wTr HBf bg;have A:=HXf.out.below bg;have hc3:=FaBox.c3 A;have hf3:=fzL A 3;have e1:wg.setCell ⟨G+3,3,none⟩ (.slice h.o h.n h.c)=wg.setRow (G+3) (FaC (mkF ⟨a,acc.length,c,acc,jn,h.o,h.n,h.c,F⟩)):=setCell_rowL A;obtain ⟨wh,hwh⟩:∃ wh,wg.setCell ⟨G+3,3,none⟩ (.slice h.o h.n h.c)=wh:=⟨_,rfl⟩;have e2:=e1.symm.trans hwh
    have HXh:Hid (FaBox wh (G+3) (mkF ⟨a,acc.length,c,acc,jn,h.o,h.n,h.c,F⟩)):=by rw [<- e2];exact A.setRow
    have HAh:Hid (K.ESrc wh a acc.length c acc):=by rw [<- e2];exact esrc_offF A (HAf.out.below bg) _
    have HSjh:Hid (PSrc wh jn):=by rw [<- e2];exact psrc_offF A (HSj.out.below bg) _
    have HRh:Hid (RcS wh h.o h.n h.c F):=by rw [<- e2];exact rcs_offF A SF _
    have HBh:Hid (Below wk.heap.size wk wh):=by rw [<- e2];exact below_setRow HBg.out HG5.out.1
    have A2:=HZ.out.below HBh.out;have l0:=run_ldFa HXh.out;have st:=run_stFa (m':=mkF ⟨a,acc.length,c,acc,jn,h.o,h.n,h.c,F⟩) A2;have HE1:Hid (FaBox (wh.setRow (G+2) (FaC (mkF ⟨a,acc.length,c,acc,jn,h.o,h.n,h.c,F⟩))) (G+2) (mkF ⟨a,acc.length,c,acc,jn,h.o,h.n,h.c,F⟩)):=A2.setRow
    have HE:Hid (SwS w (wh.setRow (G+2) (FaC (mkF ⟨a,acc.length,c,acc,jn,h.o,h.n,h.c,F⟩))) (.returned (FaV (mkF ⟨a,acc.length,c,acc,jn,h.o,h.n,h.c,F⟩))) (fun l=>LfD f d l/\FcR l)):=
     ⟨_,rfl,FcOk.offF (f:=⟨a,acc.length,c,acc,jn,h.o,h.n,h.c,F⟩) ⟨HAh.out,HSjh.out,HRh.out⟩ A2 _,below_setRow (HBK.out.trans (HBh.out.mono HBK.out.size)) (by rw [HGs.out];omega),lf_of HE8.out HH.out HDd.out HCn.out HCt.out HCj.out WF,GR⟩
    clear SF bg WF GR A A2 e1 e2;go_wp2_with fail;clear l0 st hc3 hf3 hwh;refine bodyPost_ret (res1Fa rfl rfl HE1.out) rfl ?_;exact HE.out
end
section
open Go.RowKit
def dk1:K.En:=⟨0,1,⟨#[65]⟩,5⟩
def dk2:K.En:=⟨0,2,⟨#[65]⟩,6⟩
def dkP:Pst:=⟨[1,1],[]⟩
def dkH:Pst:=⟨[2,1],[]⟩
def dkL:Pst:=⟨[],[⟨0,2,2⟩]⟩
def dkC:Array Value:=#[.int .i64 0,.int .i64 1,.string ⟨#[65]⟩,.int .i64 5,.int .i64 0,.int .i64 2,.string ⟨#[65]⟩,.int .i64 6]
def bsE2 (a:Array (Nat × Value)):Sem Value:=Instr.buildSlice 22 2 a
theorem bsE2_eq (a:Array (Nat × Value)):Instr.buildSlice 22 2 a=bsE2 a:=rfl
theorem run_bsE2 (w:World):(bsE2 #[(0,.agg #[.int .i64 0,.int .i64 1,.string ⟨#[65]⟩,.int .i64 5]),(1,.agg #[.int .i64 0,.int .i64 2,.string ⟨#[65]⟩,.int .i64 6])]).run Tryz.prog w = .ok (.slice (some ⟨w.heap.size,0,none⟩) 2 2) (w.alloc (.cells dkC 57)):=by kernel_rfl
theorem run_bldF01 (a v:Option Addr) (n c m d:Nat) (w:World):(bldF #[(0,.slice a n c),(1,.agg #[.slice v m d,.slice none 0 0])]).run Tryz.prog w = .ok (.agg #[.slice a n c,.slice v m d,.slice none 0 0,.slice none 0 0]) w:=by kernel_rfl
theorem dkC_src (w:World) (g:Nat) (hg:w.heap.size=g):K.ESrc (w.alloc (.cells dkC 57)) (some ⟨g,0,none⟩) 2 2 [dk1,dk2]:=by
 subst hg;refine ⟨rfl,(fun h=>by cases h),fun ad h t ht=>?_,?_,(show (2:Nat) <= 3518437208883 by decide)⟩
 ·obtain rfl:=Option.some.inj h;have h1:=heap_alloc_new w (.cells dkC 57);have ht2:t < 2:=ht;generalize w.alloc (.cells dkC 57)=W at h1 ⊢;generalize w.heap.size=g at h1 ⊢;clear h ht
  obtain rfl | rfl:t=0∨t=1:=by omega
  ·refine ⟨?_,?_,?_,?_⟩ <;> simp [Addr.add,World.cell?,h1,dkC,dk1]
  ·refine ⟨?_,?_,?_,?_⟩ <;> simp [Addr.add,World.cell?,h1,dkC,dk2]
 ·intro e he;rcases List.mem_cons.1 he with rfl | he
  ·exact (show (1:Nat) <= maxLen by decide)
  ·obtain rfl:=List.mem_singleton.1 he;exact (show (1:Nat) <= maxLen by decide)
theorem madeFx (w:World) (m:Fc) (g:Nat) (hg:w.heap.size=g):∃ w':World,(stFa (.pointer (some ⟨g,0,none⟩)) (.agg (FaC (mkF m)))).run Tryz.prog (w.alloc (.cells (FaC (mkF fz0)) 29)) = .ok () w'/\FaBox w' g (mkF m)/\Below w.heap.size w w'/\w'.heap.size=w.heap.size+1:=by
 subst hg;exact ⟨_,run_stFa (FaBox_new w _),(FaBox_new w _).setRow,below_setRow (below_new w _) (Nat.le_refl _),by simp [World.setRow]⟩
theorem madeDx14 (w:World) (m:Dg) (g:Nat) (hg:w.heap.size=g):∃ w':World,(stDi (.pointer (some ⟨g,0,none⟩)) (.agg (DiC (mkD m)))).run Tryz.prog (w.alloc (.cells (FaC (mkF fz0)) 33)) = .ok () w'/\DiBox w' g (mkD m)/\Below w.heap.size w w'/\w'.heap.size=w.heap.size+1:=by
 subst hg;have A:DiBox (w.alloc (.cells (FaC (mkF fz0)) 33)) w.heap.size (mkD dz0):=DiBox_new w (mkD dz0);exact ⟨_,run_stDi A,A.setRow,below_setRow (below_new w _) (Nat.le_refl _),by simp [World.setRow]⟩
theorem dk_heard {f:Fc} (h1:f.es=[dk1,dk2]) (h2:f.p.P=dkP):HeardOf f dkH:=⟨⟨by decide,trivial⟩,fun r hr n=>by
 rw [h1,h2]
 match r,hr with
 | 0,_ =>
  show mem [⟨1,2⟩] n↔mem [⟨1,1⟩,⟨2,2⟩] n∨mem [⟨1,1⟩] n
  unfold mem;simp;omega
 | 1,_ =>
  show mem [⟨1,1⟩] n↔mem [] n∨mem [⟨1,1⟩] n
  simp [mem]
 | 2,_ | 3,_ | 4,_ | 5,_ | 6,_ | 7,_ | 8,_ | 9,_ | 10,_ | 11,_ | 12,_ | 13,_ | 14,_ | 15,_ =>
  show mem [] n↔mem [] n∨mem [] n
  simp
 | n+16,h=>exact absurd h (by omega)⟩
theorem dk_lform:InForm dkL:=⟨by decide,⟨⟨by decide,by decide,by decide,by decide,by decide,by decide⟩,trivial⟩⟩
theorem dk_lruns:∀ r,r < 16 -> runsAt dkL r=dotsG ([dk2].map dotOf) r:=fun r hr=>match r,hr with
 | 0,_=>rfl | 1,_=>rfl | 2,_=>rfl | 3,_=>rfl | 4,_=>rfl | 5,_=>rfl | 6,_=>rfl | 7,_=>rfl | 8,_=>rfl | 9,_=>rfl | 10,_=>rfl | 11,_=>rfl | 12,_=>rfl | 13,_=>rfl | 14,_=>rfl | 15,_=>rfl
 | n+16,h=>absurd h (by omega)
theorem dk_live {f:Fc} (h1:f.es=[dk1,dk2]) (h2:f.p.P=dkP) (h3:f.rs=[]):CanonOf (dotsG ((liveF f).map dotOf)) dkL:=by
 have e:liveF f=[dk2]:=by
  unfold liveF;rw [h1,h2,h3,List.filter_cons_of_neg (by decide +kernel),List.filter_cons_of_pos (by decide +kernel)];rfl
 rw [e];obtain ⟨N,hN,hp⟩:=(canon_iff.2 dk_lform:CanonOf (runsAt dkL) dkL);exact ⟨N,fun r hr=>by rw [<- dk_lruns r hr];exact hN r hr,hp⟩
theorem dk_form {f:Fc} (h1:f.es=[dk1,dk2]) (h2:f.p.P=dkP) (h3:f.rs=[]) (h4:f.an=2) (h5:f.rn=0):FormF f:=
 ⟨by rw [h1,h4];decide +kernel,by rw [h2];exact ⟨by decide,trivial⟩,by rw [h3,h5];intro j hj;omega⟩
attribute [local go_sem ↓] ldP_eq stP_eq ldFa_eq stFa_eq ldDi_eq stDi_eq bldF_eq bsE2_eq bldE_eq bldP_eq bldD_eq
attribute [local go_sem] cells_PV PC_size cells_FaV FaC_size zero_FaZ cells_DiV DiC_size run_bldF01 run_bsE2 run_bldE run_bldD run_bldP1
theorem known14_any (w:World):Calls Tryz.prog 9 #[] w fun e w'=>e = .returned (.bool true)/\Below w.heap.size w w':=by
 obtain ⟨g4,hg4⟩:∃ g,w.heap.size=g:=⟨_,rfl⟩;have lb:=run_bsE2 w;have S4:=dkC_src w g4 hg4;have b4:=below_new w (.cells dkC 57)
 have z4:(w.alloc (.cells dkC 57)).heap.size=g4+1:=by simp [hg4]
 obtain ⟨w4,hw4⟩:∃ w4,w.alloc (.cells dkC 57)=w4:=⟨_,rfl⟩;rw [hw4] at lb S4 b4 z4;rw [hg4] at lb;have V5:=vsrc_lit w4 3 #[.int .i64 1,.int .i64 1] [1,1] rfl (g4+1) 2 z4 rfl;have b5:=below_new w4 (.cells #[.int .i64 1,.int .i64 1] 3)
 have z5:(w4.alloc (.cells #[.int .i64 1,.int .i64 1] 3)).heap.size=g4+2:=by simp [z4]
 obtain ⟨w5,hw5⟩:∃ w5,w4.alloc (.cells #[.int .i64 1,.int .i64 1] 3)=w5:=⟨_,rfl⟩;rw [hw5] at V5 b5 z5;have F5:FcOk w5 ⟨some ⟨g4,0,none⟩,2,2,[dk1,dk2],⟨some ⟨g4+1,0,none⟩,2,2,none,0,0,dkP⟩,none,0,0,[]⟩:=⟨S4.below b5,⟨V5,SSrc.empty _,(show (2:Nat) <= 17592186044415 by decide)⟩,RcS.empty _⟩;obtain ⟨w6,hst,X6,B6,-⟩:=madeFx w5 ⟨some ⟨g4,0,none⟩,2,2,[dk1,dk2],⟨some ⟨g4+1,0,none⟩,2,2,none,0,0,dkP⟩,none,0,0,[]⟩ (g4+2) z5;obtain ⟨f,hf,h1,h2,h3,h4,h5,h6⟩:∃ f:Fc,f=⟨some ⟨g4,0,none⟩,2,2,[dk1,dk2],⟨some ⟨g4+1,0,none⟩,2,2,none,0,0,dkP⟩,none,0,0,[]⟩/\f.es=[dk1,dk2]/\f.p.P=dkP/\f.rs=[]/\f.an=2/\f.rn=0/\f.rc=0:=⟨_,rfl,rfl,rfl,rfl,rfl,rfl,rfl⟩;have hst2:(stFa (.pointer (some ⟨g4+2,0,none⟩)) (.agg #[.slice (some ⟨g4,0,none⟩) 2 2,.slice (some ⟨g4+1,0,none⟩) 2 2,.slice none 0 0,.slice none 0 0])).run Tryz.prog (w5.alloc (.cells (FaC (mkF fz0)) 29)) = .ok () w6:=hst
 have lf:(ldFa (.pointer (some ⟨g4+2,0,none⟩))).run Tryz.prog w6 = .ok (FaV (mkF f)) w6:=by rw [hf];exact run_ldFa X6
 have HB6:=hide ((b4.trans (b5.mono b4.size)).trans (B6.mono (Nat.le_trans b4.size b5.size)));have HU:Hid (SwB 1 w6 f):=⟨by rw [hf];exact F5.below B6,⟨by omega,fun _=>h6⟩,by omega,by omega,by rw [h3];intro r hr;cases hr⟩;have HP:Hid (FormF f/\HeardOf f dkH/\CanonOf (dotsG ((liveF f).map dotOf)) dkL):=⟨dk_form h1 h2 h3 h4 h5,dk_heard h1 h2,dk_live h1 h2 h3⟩;clear S4 b4 V5 b5 F5 X6 B6 hst hf h1 h2 h3 h4 h5 h6;go_enter Tryz.func9,Tryz.ntmps9;go_wp2_with fail;clear lb hw4 hw5 z4 z5 hst2 lf hg4;refine (ofFacts_any f _ (HU.out.u (by decide))).mono ?_;rintro e v7 ⟨d,er,rfl,Sd,b7,hd⟩
 obtain ⟨rfl,hD⟩:er=0/\DoF f d:=by
  rcases hd with ⟨h,-⟩ | ⟨-,h,k⟩
  ·exact absurd HP.out.1 h
  ·exact ⟨h,k⟩
 have eh:d.h.P=dkH:=hD.1.one HP.out.2.1;have el:d.l.P=dkL:=hD.2.unique HP.out.2.2 fun _ _ _=>Iff.rfl;obtain ⟨g8,hg8⟩:∃ g,v7.heap.size=g:=⟨_,rfl⟩;obtain ⟨w8,hst,X8,B8,-⟩:=madeDx14 v7 d g8 hg8;have HE:=hide (HB6.out.trans ((b7.trans (B8.mono b7.size)).mono HB6.out.size));have Sd8:=Sd.below B8
 have hvn:d.h.vn=2:=by rw [<- Sd8.1.vec.1,eh];rfl
 have hcn:d.l.cn=1:=by rw [<- Sd8.2.cloud.len,el];rfl
 obtain ⟨av,hav⟩:∃ a,d.h.vo=some a:=by
  cases h:d.h.vo with
  | none=>have:=Sd8.1.vec.2.1 h;omega
  | some a=>exact ⟨a,rfl⟩
 have hv0:=Sd8.1.vec.2.2 av hav 0 (by omega)
 obtain ⟨b1,o1,rfl⟩:∃ b1 o1,av=⟨b1,o1,none⟩:=by
  have h1:=World.cell?_spot hv0;obtain ⟨b,o,sp⟩:=av;obtain rfl:sp=none:=h1;exact ⟨b,o,rfl⟩
 obtain ⟨ac,hac,hc0⟩:=Sd8.2.cloud.at 0 (by omega)
 obtain ⟨b2,o2,rfl⟩:∃ b2 o2,ac=⟨b2,o2,none⟩:=by
  have h:=Sd8.2.cloud;rw [hac] at h;exact h.spot (by omega)
 have hl0:=hc0.c1;rw [el] at hl0
 have hl:w8.cell? ⟨b2,o2+1,none⟩=some (.int .i64 2):=by
  rw [Addr.add_lit,Addr.add_lit] at hl0;have h2:w8.cell? ⟨b2,o2+0 * 3+1,none⟩=some (.int .i64 2):=hl0;simpa using h2
 rw [eh] at hv0;have c0:=X8.c0;have c3:w8.cell? ⟨g8,2+1,none⟩=some (.slice d.l.co d.l.cn d.l.cc):=X8.c3
 have c0':w8.cell? ⟨g8,0,none⟩=some (.slice (some ⟨b1,o1,none⟩) 2 d.h.vc):=by rw [<- hav,<- hvn];exact c0
 rw [hac,hcn] at c3
 have hv:w8.cell? ⟨b1,o1,none⟩=some (.int .i64 2):=by
  have h2:w8.cell? ⟨b1,o1+0,none⟩=some (.int .i64 2):=hv0;simpa using h2
 clear hvn hcn hav hac hv0 hc0 hl0 Sd b7 hd hD eh el X8 B8 Sd8 c0;go_wp2_with fail;go_ret;exact ⟨rfl,HE.out⟩
end
section
open Go.RowKit
def sx1:K.En:=⟨0,1,⟨#[65]⟩,5⟩
def sxP:Pst:=⟨[1],[]⟩
def A1D (s:Fc):Prop:=s.es=[sx1]/\s.an=1/\s.p.P=sxP/\s.rs=[]/\s.rn=0/\s.rc=0
def sxC:Array Value:=#[.int .i64 0,.int .i64 1,.string ⟨#[65]⟩,.int .i64 5]
def bsX1 (a:Array (Nat × Value)):Sem Value:=Instr.buildSlice 22 1 a
theorem bsX1_eq (a:Array (Nat × Value)):Instr.buildSlice 22 1 a=bsX1 a:=rfl
theorem run_bsX1 (w:World):(bsX1 #[(0,.agg #[.int .i64 0,.int .i64 1,.string ⟨#[65]⟩,.int .i64 5])]).run Tryz.prog w = .ok (.slice (some ⟨w.heap.size,0,none⟩) 1 1) (w.alloc (.cells sxC 57)):=by kernel_rfl
theorem run_bldS01 (a v:Option Addr) (n c m d:Nat) (w:World):(bldS #[(0,.slice a n c),(1,.agg #[.slice v m d,.slice none 0 0])]).run Tryz.prog w = .ok (.agg #[.slice a n c,.slice v m d,.slice none 0 0,.slice none 0 0]) w:=by kernel_rfl
theorem madeSx (w:World) (m:Fc) (g:Nat) (hg:w.heap.size=g):∃ w':World,(stSw (.pointer (some ⟨g,0,none⟩)) (.agg (FaC (mkF m)))).run Tryz.prog (w.alloc (.cells (FaC (mkF fz0)) 31)) = .ok () w'/\SwBox w' g (mkF m)/\Below w.heap.size w w'/\w'.heap.size=w.heap.size+1:=by
 subst hg;exact ⟨_,run_stSw (SwBox_new w _),(SwBox_new w _).setRow,below_setRow (below_new w _) (Nat.le_refl _),by simp [World.setRow]⟩
attribute [local go_sem ↓] ldP_eq stP_eq ldSw_eq stSw_eq bldS_eq bsX1_eq bldE_eq bldP_eq bldD_eq
attribute [local go_sem] cells_PV PC_size cells_FaV FaC_size zero_FaZ run_bldS01 run_bsX1 run_bldE run_bldD run_bldP1
end
end Go.Proofs.YtjeilkenjdnafaaGreat
