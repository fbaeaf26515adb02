import Derived.Test.YthlbpeoiocdjlaaGreatTk
import Derived.Test.YthlbpeoiocdjlaaGreatCb43
import Derived.Test.YthlbpeoiocdjlaaGreatCb13
import Derived.Deep.MidRow
import Derived.Test.YthlbpeoiocdjlaaGreatCb09
import Derived.Test.YthlbpeoiocdjlaaGreatCb38
set_option maxRecDepth 100000
set_option maxHeartbeats 3200000
namespace Go.Proofs.YthlbpeoiocdjlaaGreat
section
open Go.RowKit
attribute [local go_sem ↓] ldP_eq stP_eq ldFa_eq stFa_eq ldSw_eq stSw_eq bldF_eq
attribute [local go_sem] cells_PV PC_size zero_PC cells_FaV FaC_size zero_FaZ run_bldF0 run_bldFpE run_bldFaE run_bldFxE
theorem sameFacts4_any (a b:Fc) (w:World) (hF:FcOk w a) (hG:FcOk w b) (hE:EqS a b):Calls Tryz.prog 16 #[FaV (mkF a),FaV (mkF b)] w fun e w'=>e = .returned (.bool true)/\Below w.heap.size w w':=by
 obtain ⟨wk,hwk,HX,HY,HBK⟩:=box2F w a b;obtain ⟨G,hG0⟩:∃ G,w.heap.size=G:=⟨_,rfl⟩;rw [hG0] at HX HY;have HF:=hide (hF.below HBK.out);have HG:=hide (hG.below HBK.out);have HE:=hide hE;clear hF hG hE;have c0:=HX.out.cs.1;have d0:=HY.out.cs.1;go_enter Tryz.func16,Tryz.ntmps16;go_wp2_with fail;clear hwk hG0 c0 d0;refine (sameEntries_any a.ao b.ao a.an b.an a.ac b.ac a.es b.es _ HF.out.es HG.out.es).mono ?_;rintro e w3 ⟨x,rfl,hx,b3⟩;obtain rfl:x=true:=hx.2 HE.out.1;have HB3:=hide b3;clear hx b3;have lp:=run_ldP (HX.out.below HB3.out).past;have lq:=run_ldP (HY.out.below HB3.out).past;go_wp2_with fail;clear lp lq;refine (samePast_any a.p b.p _ (HF.out.below HB3.out).p (HG.out.below HB3.out).p).mono ?_;rintro e w4 ⟨x,rfl,hx,b4⟩;obtain rfl:x=true:=hx.2 HE.out.2.1;have HB4:=wTr HB3 b4;clear hx b4;have c3:=(HX.out.below HB4.out).cs.2
 have d3:=(HY.out.below HB4.out).cs.2;go_wp2_with fail;clear c3 d3;refine (sameRecords_any a.ro b.ro a.rn b.rn a.rc b.rc a.rs b.rs _ (HF.out.below HB4.out).rs (HG.out.below HB4.out).rs).mono ?_;rintro e w5 ⟨x,rfl,hx,b5⟩;obtain rfl:x=true:=hx.2 HE.out.2.2;have HB5:=hide (HBK.out.trans ((HB4.out.trans (b5.mono HB4.out.size)).mono HBK.out.size));clear hx b5;go_wp2_with fail;go_ret;exact ⟨rfl,HB5.out⟩
def XpE (s h:Fc):Prop:=XpD s h/\plR h.rs=plR s.rs/\∀ r∈h.rs,RecOk r
theorem rck_cl {r r':Rc} (h:rck r=rck r'):r.p.P=r'.p.P:=congrArg Prod.snd h
theorem xp_rec {s h:Fc} (hr:s.rs.length=s.rn) (fs:FormS s) (hL:LrOf s.rs [] h.rs):plR h.rs=plR s.rs:=by
 have h1:Srt ck (plR s.rs):=(okR_iff.1 (by rw [hr];exact fs.1.2.2)).2;refine Srt.uniq ck_tot hL.1 h1 fun y=>?_;rw [hL.2.2 y];exact ⟨And.left,fun k=>⟨k,fun q=>by cases q⟩⟩
theorem xp_gone {s h:Fc} (x:XpD s h) (e:K.En):inB h.p.P e=true↔inB s.p.P e=true/\¬ ∃ y∈s.es,dotOf y=dotOf e:=by
 obtain ⟨-,p,hp,hm⟩:=x;rw [hm.inB];refine and_congr_right fun k=>not_congr ?_;rw [heard_inB hp];constructor
 ·rintro (⟨-,q⟩ | q)
  ·exact q
  ·have q':inB pv0.P e=true:=q;rw [inB_0] at q';cases q'
 ·intro q;exact .inl ⟨inB_okDS k,q⟩
theorem xp_form {w:World} {s h:Fc} (hS:s.es.length=s.an) (hR:s.rs.length=s.rn) (hH:FcOk w h) (fs:FormS s) (x:XpE s h):FormF h:=by
 obtain ⟨⟨h1,p,-,h2⟩,h3,h4⟩:=x;refine ⟨(chk_okS hH.es.1).1 ?_,h2.form,?_⟩
 ·rw [h1];exact (chk_okS hS).2 fs.1.1
 ·rw [<- hH.rs.len];refine okR_iff.2 ⟨h4,?_⟩;rw [h3];exact (okR_iff.1 (by rw [hR];exact fs.1.2.2)).2
theorem xp_state {s h t:Fc} (fs:FormS s) (x:XpE s h) (k:StD h t):EqS t s:=by
 obtain ⟨x1,x2,x3⟩:=x
 have eP:t.p.P=s.p.P:=by
  refine pst_ext k.2.1.1 fs.1.2.1 fun e=>?_;rw [heard_inB k.2.1,xp_gone x1,x1.1];constructor
  ·rintro (⟨-,y,hy,hd⟩ | q)
   ·rw [<- dot_inB hd];exact fs.2.1 y hy
   ·exact q.1
  ·intro q;by_cases c:∃ y∈s.es,dotOf y=dotOf e
   ·exact .inl ⟨inB_okDS q,c⟩
   ·exact .inr ⟨q,c⟩
 refine ⟨?_,eP,?_⟩
 ·rw [k.1,x1.1];refine List.filter_eq_self.2 fun e he=>?_
  have g1:inB h.p.P e=false:=by
   rw [Bool.eq_false_iff];intro q;exact ((xp_gone x1 e).1 q).2 ⟨e,he,rfl⟩
  have g2:freeB h.rs e=true:=by
   rw [free_ab,x2,<- free_ab];exact fs.2.2.2 e he
  unfold lvB;rw [g1,g2];rfl
 ·rw [k.2.2.2,x2,eP];refine List.filter_eq_self.2 fun y hy=>?_;obtain ⟨r,hr,rfl⟩:=List.mem_map.1 hy;exact waitB_yes (fs.2.2.1 r hr)
theorem std_of {f s t:Fc} (h:StD f t) (e:EqS t s) (hr:∀ r∈s.rs,RecOk r):StD f s:=
 ⟨e.1.symm.trans h.1,by rw [<- e.2.1];exact h.2.1,hr,by rw [<- e.2.2,h.2.2.2,e.2.1]⟩
end
section
open Go.RowKit
variable {w w' : World} {g : Nat}
structure SpR where
 a:Int
 z:Int
 b:Int
def sp0:SpR:=⟨0,0,0⟩
def SpC (m:SpR):Array Value:=#[.int .i64 m.a,.int .i64 m.z,.int .i64 m.b]
abbrev SpV (m:SpR):Value:=.agg (SpC m)
theorem SpC_size (m:SpR):(SpC m).size=3:=rfl
theorem SpC_one (m:SpR):∀ v∈(SpC m).toList,v.oneCell'=true:=by
 intro v hv;simp [SpC] at hv;rcases hv with rfl | rfl | rfl <;> rfl
theorem cells_SpV (m:SpR):(SpV m).cells=SpC m:=by simp [Value.cells]
structure SpAt (w:World) (a:Addr) (m:SpR):Prop where
 c0:w.cell? a=some (.int .i64 m.a)
 c1:w.cell? (a.add 1)=some (.int .i64 m.z)
 c2:w.cell? (a.add 2)=some (.int .i64 m.b)
def SpBox (w:World) (g:Nat) (m:SpR):Prop:=w.heap[g]? = some (.cells (SpC m) 51 (0,0))
theorem SpBox.lt {m:SpR} (h:SpBox w g m):g < w.heap.size:=(Array.getElem?_eq_some_iff.1 h).1
theorem SpBox.below {m:SpR} (h:SpBox w g m) (hb:Below w.heap.size w w'):SpBox w' g m:=(hb.block g h.lt).trans h
theorem SpBox.c0 {m:SpR} (h:SpBox w g m):w.cell? ⟨g,0,none⟩=some (.int .i64 m.a):=by unfold SpBox at h;simp [World.cell?,h,SpC]
theorem SpBox.c1 {m:SpR} (h:SpBox w g m):w.cell? ⟨g,1,none⟩=some (.int .i64 m.z):=by unfold SpBox at h;simp [World.cell?,h,SpC]
theorem SpBox.c2 {m:SpR} (h:SpBox w g m):w.cell? ⟨g,2,none⟩=some (.int .i64 m.b):=by unfold SpBox at h;simp [World.cell?,h,SpC]
theorem SpBox_new (w:World) (m:SpR):SpBox (w.alloc (.cells (SpC m) 51)) w.heap.size m:=by unfold SpBox;rw [heap_alloc_new]
def ldSp (v:Value):Sem Value:=Instr.loadAt 51 v
theorem ldSp_eq (v:Value):Instr.loadAt 51 v=ldSp v:=rfl
def stSp (p v:Value):Sem Unit:=Instr.storeAt 51 p v
theorem stSp_eq (p v:Value):Instr.storeAt 51 p v=stSp p v:=rfl
theorem sizeSp:(Tryz.prog.info? 51).map (·.size)=some 3:=by kernel_rfl
theorem SpBox.range {m:SpR} (h:SpBox w g m):w.rangeAt g 0 (SpC m).toList:=by
 intro j v hv;rw [Nat.zero_add];unfold SpBox at h;simp only [Array.getElem?_toList] at hv;simp [World.cell?,h,hv]
theorem run_lvSp {m:SpR} (A:SpBox w g m):(loadVar 51 ⟨g,0,none⟩).run Tryz.prog w = .ok (SpV m) w:=by
 have:=run_loadVar_mid (P:=Tryz.prog) w g 0 51 (SpC m).toList _ A.range Tryz.underlying51 rfl (by rw [sizeSp];rfl);simpa using this
theorem run_stSp {m m':SpR} (A:SpBox w g m):(stSp (.pointer (some ⟨g,0,none⟩)) (.agg (SpC m'))).run Tryz.prog w = .ok () (w.setRow g (SpC m')):=by
 unfold stSp;have h:=run_storeCells_from (P:=Tryz.prog) g 51 (SpC m').toList 0 (SpC m) w A (by simp [SpC]) (SpC_one m')
 cases hq:Tryz.prog.info? 51 with
 | none=>have:=sizeSp;simp [hq] at this
 | some x =>
  have hs:x.size=3:=by have:=sizeSp;simpa [hq] using this
  simp only [Instr.storeAt,Instr.sureAddr,Sem.run_bind,Sem.run_pure,Result.andThen,storeVar,sizeOf,typeInfo,cells_SpV,SpC_size];simp at h;simp [h,hq,hs]
theorem SpBox.setRow {m m':SpR} (A:SpBox w g m):SpBox (w.setRow g (SpC m')) g m':=setRow_heap w g _ _ _ _ A
theorem madeSp (w:World) (m:SpR) (g:Nat) (hg:w.heap.size=g):∃ w':World,(stSp (.pointer (some ⟨g,0,none⟩)) (.agg (SpC m))).run Tryz.prog (w.alloc (.cells (SpC sp0) 51)) = .ok () w'/\SpBox w' g m/\Below w.heap.size w w'/\w'.heap.size=w.heap.size+1:=by
 subst hg;refine ⟨_,run_stSp (SpBox_new w _),(SpBox_new w _).setRow,below_setRow (below_new w _) (Nat.le_refl _),by simp [World.setRow]⟩
end
section
open Go.RowKit
attribute [local go_sem ↓] ldP_eq stP_eq ldFa_eq stFa_eq ldSw_eq stSw_eq bldF_eq
attribute [local go_sem] cells_PV PC_size zero_PC cells_FaV FaC_size zero_FaZ run_bldF0 run_bldFpE run_bldFaE run_bldFxE
theorem cExpand2_any (N:Nat) (hN:N <= 4) (s:Fc) (w:World) (hS:SwB N w s) (hf:FormS s):Calls Tryz.prog 13 #[FaV (mkF s)] w fun e w'=>∃ h,e = .returned (.tuple #[FaV (mkF h),.int .i64 0])/\SwB N w' h/\Below w.heap.size w w'/\XpE s h:=by
 obtain ⟨wk,hwk,HX,HZ,HBK⟩:=boxSF w s;obtain ⟨G,hG0⟩:∃ G,w.heap.size=G:=⟨_,rfl⟩;rw [hG0] at HX HZ;have HGs:Hid (w.heap.size=G):=hG0;have HU:=hide ((hS.below HBK.out).u hN);have HS:=hide (hS.below HBK.out);have HFs:=hide hf;clear hS hf;have l0:=run_ldSw HX.out;go_enter Tryz.func13,Tryz.ntmps13;go_wp2_with fail;clear hwk hG0 l0;refine (HU.out.chk).mono ?_;rintro e w3 ⟨z,rfl,hz,b3⟩
 obtain rfl:z=0:=by
  rcases hz with ⟨-,h⟩ | ⟨h,-⟩
  ·exact h
  ·exact absurd HFs.out h
 have HB3:=hide b3;clear b3 hz;have c0:=(HX.out.below HB3.out).cs.1;go_wp2_with fail;clear c0;have HNd:Hid (FcOk w3 (ndE s)):=⟨(HS.out.ok.below HB3.out).es,PSrc.zero _,RcS.empty _⟩;refine (tPast_any (ndE s) _ HNd.out).mono ?_;rintro e v4 ⟨p,er,rfl,Sp,-,b4,hp⟩
 obtain ⟨rfl,hH⟩:er=0/\HeardOf (ndE s) p.P:=by
  rcases ps_heard hp with ⟨h,-⟩ | ⟨-,h,k⟩
  ·exact absurd (ndE_form HFs.out) h
  ·exact ⟨h,k⟩
 obtain ⟨g4,hg4⟩:∃ g,v4.heap.size=g:=⟨_,rfl⟩;obtain ⟨w4,hst,X4,B4,-⟩:=madeP v4 p g4 hg4;have b44:=b4.trans (B4.mono b4.size);have HB4:=wTr HB3 b44;have HX4:=hide X4;have HSp:=hide (Sp.below B4);have HH:=hide hH;clear Sp b4 hp hH X4 B4 b44;have c0:=(HX.out.below HB4.out).cs.1;have c3:=(HX.out.below HB4.out).cs.2;have lp:=run_ldP (HX.out.below HB4.out).past
 have lq:=run_ldP HX4.out.at
 go_wp2_with fail;clear c0 c3 lp lq hst hg4;have HL:Hid (FcOk w4 ⟨none,0,0,[],p,none,0,0,[]⟩):=⟨(fz0_ok _).es,HSp.out,RcS.empty _⟩;refine (tLess_any s ⟨none,0,0,[],p,none,0,0,[]⟩ _ (HS.out.ok.below HB4.out) HL.out (by have:=HS.out.rn;omega)).mono ?_;rintro e w5 ⟨h,er,rfl,Fh,Rh,-,b5,hh⟩
 obtain ⟨rfl,hL⟩:er=0/\LeOf s ⟨none,0,0,[],p,none,0,0,[]⟩ h:=by
  rcases hh with ⟨k,-⟩ | ⟨-,-,k,q⟩
  ·exact absurd ⟨⟨HFs.out.1.1,HFs.out.1.2.1,HFs.out.1.2.2⟩,⟨rfl,HH.out.1,fun j hj=>absurd hj (Nat.not_lt_zero _)⟩⟩ k
  ·exact ⟨k,q⟩
 have HB5:=wTr HB4 b5;have A5:=HZ.out.below HB5.out;have st:=run_stFa (m':=mkF h) A5;have HE1:Hid (FaBox (w5.setRow (G+1) (FaC (mkF h))) (G+1) (mkF h)):=A5.setRow
 have HE:Hid (∃ h',Ending.returned (.tuple #[FaV (mkF h),.int .i64 0]) = .returned (.tuple #[FaV (mkF h'),.int .i64 0])/\SwB N (w5.setRow (G+1) (FaC (mkF h))) h'/\Below w.heap.size w (w5.setRow (G+1) (FaC (mkF h)))/\XpE s h'):=by
  have e1:h.es=s.es:=by
   rw [hL.1];exact List.filter_eq_self.2 fun e _=>notIn_iff.2 (fun k=>by cases k)
  have e2:plR h.rs=plR s.rs:=xp_rec HS.out.ok.rs.len HFs.out hL.2.2.1
  have e3:h.an <= N * 1048576:=by
   have h1:=Fh.es.1;have h2:=HS.out.ok.es.1;have h3:=HS.out.an;rw [e1] at h1;omega
  have e4:h.rn <= N * 209716:=Nat.le_trans hL.2.2.2 HS.out.rn;refine ⟨h,rfl,(show SwB N w5 h from ⟨Fh,Rh,e4,e3,fun r hr=>?_⟩).offFa A5 _,below_setRow (HBK.out.trans (HB5.out.mono HBK.out.size)) (by rw [HGs.out];omega),⟨e1,p.P,HH.out,hL.2.1⟩,e2,hL.2.2.1.2.1⟩
  have h1:rck r∈plR s.rs:=by rw [<- e2];exact List.mem_map.2 ⟨r,hr,rfl⟩
  obtain ⟨r',hr',e⟩:=List.mem_map.1 h1;rw [<- rck_cl e];exact HS.out.cl r' hr'
 clear Fh Rh b5 hh hL A5;go_wp2_with fail;clear st;refine bodyPost_ret (res2Fb rfl rfl rfl HE1.out) rfl ?_;exact HE.out
theorem boxFF (w:World) (f:Fc):∃ wk,(w.alloc (.cells (FaC (mkF f)) 29)).alloc (.cells (FaC (mkF fz0)) 29)=wk/\Hid (FaBox wk w.heap.size (mkF f))/\Hid (FaBox wk (w.heap.size+1) (mkF fz0))/\Hid (Below w.heap.size w wk):=box2F w f fz0
def PrD (f h:Fc) (er:Int):Prop:=(¬ FormF f/\er=1)∨(FormF f/\er=0/\∃ s,StD f s/\FormS s/\s.es.length=s.an/\s.rs.length=s.rn/\XpE s h)
theorem cPrune_any (N:Nat) (hN:N <= 4) (f:Fc) (w:World) (hS:SwB N w f):Calls Tryz.prog 15 #[FaV (mkF f)] w fun e w'=>∃ h er,e = .returned (.tuple #[FaV (mkF h),.int .i64 er])/\SwB N w' h/\Below w.heap.size w w'/\PrD f h er:=by
 obtain ⟨wk,hwk,HX,HZ,HBK⟩:=boxFF w f;obtain ⟨G,hG0⟩:∃ G,w.heap.size=G:=⟨_,rfl⟩;rw [hG0] at HX HZ;have HGs:Hid (w.heap.size=G):=hG0;have HF:=hide (hS.below HBK.out);clear hS;have l0:=run_ldFa HX.out;go_enter Tryz.func15,Tryz.ntmps15;go_wp2_with fail;clear hwk hG0 l0;refine (cmpct_any N hN f _ HF.out).mono ?_;rintro e v3 ⟨s,er,rfl,Ss,b3,hs⟩;obtain ⟨gs,hgs⟩:∃ g,v3.heap.size=g:=⟨_,rfl⟩;obtain ⟨w3,hst,X3,B3,-⟩:=madeSx v3 s gs hgs;have b33:=b3.trans (B3.mono b3.size);have HB3:=hide b33;have HXs:=hide X3;have HSs:=hide (Ss.below B3);have Hs:=hide hs;clear Ss b3 hs X3 B3 b33;rcases Hs.out with ⟨h1,rfl,-⟩ | ⟨h1,rfl,h2⟩
 ·have A3:=HZ.out.below HB3.out;have st:=run_stFa (m':=mkF fz0) A3;have HE1:Hid (FaBox (w3.setRow (G+1) (FaC (mkF fz0))) (G+1) (mkF fz0)):=A3.setRow;have HE:Hid (∃ h er,Ending.returned (.tuple #[FaV (mkF fz0),.int .i64 1]) = .returned (.tuple #[FaV (mkF h),.int .i64 er])/\SwB N (w3.setRow (G+1) (FaC (mkF fz0))) h/\Below w.heap.size w (w3.setRow (G+1) (FaC (mkF fz0)))/\PrD f h er):=⟨fz0,1,rfl,fz0_b N _,below_setRow (HBK.out.trans (HB3.out.mono HBK.out.size)) (by rw [HGs.out];omega),.inl ⟨h1,rfl⟩⟩;clear h1 A3 Hs;go_wp2_with fail;clear st hst hgs;refine bodyPost_ret (res2Fb rfl rfl rfl HE1.out) rfl ?_;exact HE.out
 ·have HFf:=hide h1;have HDs:=hide h2;have HFs:Hid (FormS s):=st_form HSs.out.ok HF.out.ok.es.1 HF.out.ok.rs.len h1 h2;have l0:=run_ldSw HXs.out;clear h1 h2 Hs;go_wp2_with fail;clear l0 hst hgs;refine (cExpand2_any N hN s _ HSs.out HFs.out).mono ?_;rintro e w4 ⟨h,rfl,Sh,b4,hx⟩;have HB4:=wTr HB3 b4;have A4:=HZ.out.below HB4.out;have st:=run_stFa (m':=mkF h) A4;have HE1:Hid (FaBox (w4.setRow (G+1) (FaC (mkF h))) (G+1) (mkF h)):=A4.setRow;have HE:Hid (∃ h' er,Ending.returned (.tuple #[FaV (mkF h),.int .i64 0]) = .returned (.tuple #[FaV (mkF h'),.int .i64 er])/\SwB N (w4.setRow (G+1) (FaC (mkF h))) h'/\Below w.heap.size w (w4.setRow (G+1) (FaC (mkF h)))/\PrD f h' er):=⟨h,0,rfl,Sh.offFa A4 _,below_setRow (HBK.out.trans (HB4.out.mono HBK.out.size)) (by rw [HGs.out];omega),.inr ⟨HFf.out,rfl,s,HDs.out,HFs.out,HSs.out.ok.es.1,HSs.out.ok.rs.len,hx⟩⟩
  clear Sh b4 hx A4;go_wp2_with fail;clear st;refine bodyPost_ret (res2Fb rfl rfl rfl HE1.out) rfl ?_;exact HE.out
theorem res2Sp {w:World} {g:Nat} {fn:Func} {p q:Tmp} {m:SpR} {v:Value} (h:fn.results=#[.cell p 51,.tmp q]) {tmps:Array Value} (hp:tmps.getD p undef = .pointer (some ⟨g,0,none⟩)) (hq:tmps.getD q undef=v) (A:SpBox w g m) :
  (results fn tmps).run Tryz.prog w = .ok (.tuple #[SpV m,v]) w:=by
 have hl:=run_lvSp A;simp only [results,h];rw [Array.getD_eq_getD_getElem?] at hp hq;simp [hp,hq,asAddr,hl]
def bldSpc (a:Array (Nat × Value)):Sem Value:=Instr.build 51 a
theorem bldSpc_eq (a:Array (Nat × Value)):Instr.build 51 a=bldSpc a:=rfl
theorem run_bldSpc (a b c:Int) (w:World):(bldSpc #[(0,.int .i64 a),(1,.int .i64 b),(2,.int .i64 c)]).run Tryz.prog w = .ok (.agg #[.int .i64 a,.int .i64 b,.int .i64 c]) w:=by kernel_rfl
theorem wrapZ:IntKind.i64.wrap 0=0:=by decide
theorem zero_SpC:(#[.int .i64 0,.int .i64 0,.int .i64 0]:Array Value)=SpC sp0:=rfl
theorem boxFSp (w:World) (f:Fc):∃ wk,(w.alloc (.cells (FaC (mkF f)) 29)).alloc (.cells (SpC sp0) 51)=wk/\Hid (FaBox wk w.heap.size (mkF f))/\Hid (SpBox wk (w.heap.size+1) sp0)/\Hid (Below w.heap.size w wk):=by
 have b1:=below_new w (.cells (FaC (mkF f)) 29);have b2:=below_new (w.alloc (.cells (FaC (mkF f)) 29)) (.cells (SpC sp0) 51);have X2:=SpBox_new (w.alloc (.cells (FaC (mkF f)) 29)) sp0;rw [World.size_alloc] at X2;exact ⟨_,rfl,(FaBox_new w (mkF f)).below b2,X2,b1.trans (b2.mono b1.size)⟩
attribute [local go_sem ↓] bldSpc_eq ldSp_eq stSp_eq
attribute [local go_sem] run_bldSpc wrapZ cells_SpV SpC_size zero_SpC
theorem cSpent_rest (N:Nat) (hN:N <= 4) (f:Fc) (w:World) (hS:SwB N w f) (ff:FormF f) (hr:∀ s,StD f s -> s.es.length=f.an/\(plR s.rs).length=f.rn):Calls Tryz.prog 17 #[FaV (mkF f)] w fun e w'=>∃ z:Int,e = .returned (.tuple #[SpV ⟨0,z,0⟩,.int .i64 0])/\Below w.heap.size w w':=by
 obtain ⟨wk,hwk,HX,HZ,HBK⟩:=boxFSp w f;obtain ⟨G,hG0⟩:∃ G,w.heap.size=G:=⟨_,rfl⟩;rw [hG0] at HX HZ;have HGs:Hid (w.heap.size=G):=hG0;have HF:=hide (hS.below HBK.out);have HP:Hid (FormF f/\∀ s,StD f s -> s.es.length=f.an/\(plR s.rs).length=f.rn):=⟨ff,hr⟩;clear hS ff hr;have l0:=run_ldFa HX.out;go_enter Tryz.func17,Tryz.ntmps17;go_wp2_with fail;clear hwk hG0 l0;refine (cmpct_any N hN f _ HF.out).mono ?_;rintro e v3 ⟨s,er,rfl,Ss,b3,hs⟩
 obtain ⟨rfl,hD⟩:er=0/\StD f s:=by
  rcases hs with ⟨h,-⟩ | ⟨-,h,k⟩
  ·exact absurd HP.out.1 h
  ·exact ⟨h,k⟩
 obtain ⟨gs,hgs⟩:∃ g,v3.heap.size=g:=⟨_,rfl⟩;obtain ⟨w3,hst,X3,B3,-⟩:=madeSx v3 s gs hgs;have b33:=b3.trans (B3.mono b3.size);have HB3:=hide b33;have HXs:=hide X3;have HX3:=hide (HX.out.below b33)
 have HGs2:Hid (G+1 < gs):=by have h1:=HZ.out.lt;have h2:=b3.size;show _ < _;omega
 have HN:Hid (s.an=f.an/\s.rn=f.rn):=by
  obtain ⟨h1,h2⟩:=HP.out.2 s hD;rw [plR_len] at h2;exact ⟨Ss.ok.es.1.symm.trans h1,Ss.ok.rs.len.symm.trans h2⟩
 have HSt:Hid (∀ W,FaBox W G (mkF f) -> SwBox W gs (mkF s) -> (W.cell? ⟨G,0,none⟩=some (.slice f.ao f.an f.ac)/\W.cell? ⟨G,3,none⟩=some (.slice f.ro f.rn f.rc)/\(ldP (.pointer (some ⟨G,1,none⟩))).run Tryz.prog W = .ok (PV f.p) W)/\W.cell? ⟨gs,0,none⟩=some (.slice s.ao f.an s.ac)/\W.cell? ⟨gs,3,none⟩=some (.slice s.ro f.rn s.rc)):=fun W h k=>by
  have k1:=k.cs;rw [HN.out.1,HN.out.2] at k1;exact ⟨⟨h.cs.1,h.cs.2,run_ldP h.past⟩,k1⟩
 clear Ss b3 hs hD X3 B3 b33;go_upto_region 4 with fail;clear hst hgs;refine wp_region_held_drew (S:=fun W=>(W.cell? ⟨G,0,none⟩=some (.slice f.ao f.an f.ac)/\W.cell? ⟨G,3,none⟩=some (.slice f.ro f.rn f.rc)/\(ldP (.pointer (some ⟨G,1,none⟩))).run Tryz.prog W = .ok (PV f.p) W)/\W.cell? ⟨gs,0,none⟩=some (.slice s.ao f.an s.ac)/\W.cell? ⟨gs,3,none⟩=some (.slice s.ro f.rn s.rc)) (by kernel_rfl) (HSt.out _ (HX3.out.below (below_drew1 w3)) (HXs.out.below (below_drew1 w3))) (fun hHeld=>?_);refine wU 0 ?_;refine wU 1 ?_;refine wU 2 ?_;refine wU 3 ?_;refine wU 4 ?_;refine wU 5 ?_;refine wU 6 ?_;refine wU 7 ?_;refine wU 8 ?_;refine wU 10 ?_;refine wU 11 ?_;refine wU 12 ?_;refine wU 13 ?_;refine wU 14 ?_;refine wU 15 ?_;refine wU 16 ?_;refine wpAnyH_ready (rs:=[9]) (by kernel_rfl) (by simp) (.cons rfl (fun K hK=>?_) .nil);go_simp;go_wp2_with fail
 refine (pastSize_any f.p _ ((HF.out.ok.below HB3.out).p.below (below_drew1 w3))).mono ?_;rintro x w5 ⟨z,rfl,-,b5⟩;have b55:=(below_drew1 w3).trans (b5.mono (below_drew1 w3).size);have HX5:=hide (HX3.out.below b55);have HXs5:=hide (HXs.out.below b55);have HB5:=wTr HB3 b55;clear b5 b55;refine hK.out _ _ (HSt.out _ HX5.out HXs5.out) (fun hHeld=>?_);clear hK K;refine wU 17 ?_;have A5:=HZ.out.below HB5.out;have st:=run_stSp (m':=⟨0,z,0⟩) A5;replace st:(stSp (.pointer (some ⟨G+1,0,none⟩)) (.agg #[.int .i64 0,.int .i64 z,.int .i64 0])).run Tryz.prog w5 = .ok () (w5.setRow (G+1) (SpC ⟨0,z,0⟩)):=st;have HE1:Hid (SpBox (w5.setRow (G+1) (SpC ⟨0,z,0⟩)) (G+1) ⟨0,z,0⟩):=A5.setRow;have HX6:Hid (FaBox (w5.setRow (G+1) (SpC ⟨0,z,0⟩)) G (mkF f)):=(setRow_other _ _ _ _ (by omega)).trans HX5.out;have HXs6:Hid (SwBox (w5.setRow (G+1) (SpC ⟨0,z,0⟩)) gs (mkF s)):=(setRow_other _ _ _ _ (by have:=HGs2.out;omega)).trans HXs5.out
 have HE:Hid (Below w.heap.size w (w5.setRow (G+1) (SpC ⟨0,z,0⟩))):=below_setRow (HBK.out.trans (HB5.out.mono HBK.out.size)) (by rw [HGs.out];omega);clear A5;refine wpAnyH_ready (rs:=[18]) (by kernel_rfl) (by simp) (.cons rfl (fun K hK=>?_) .nil);go_simp;refine hK.out _ _ (HSt.out _ HX6.out HXs6.out) (fun hHeld=>?_);clear hK K;clear st;refine wU 19 ?_;refine wpAnyH_done (by kernel_rfl) ?_ _;clear hHeld;go_wp2_with fail;refine bodyPost_ret (res2Sp rfl rfl rfl HE1.out) rfl ?_;exact ⟨z,rfl,HE.out⟩
end
section
open Go.ChangeShapes Go.WideShapes Go.ChangeAt Go.RowKit Go.Joins
variable {w w' W : World} {g : Nat}
structure Cz where
 f:Fc
 g:Fc
 h:Fc
 s:Fc
 v:Value
 u:Value
def CzC (c:Cz):Array Value:=#[.slice c.f.ao c.f.an c.f.ac,.slice c.f.p.vo c.f.p.vn c.f.p.vc,.slice c.f.p.co c.f.p.cn c.f.p.cc,.slice c.f.ro c.f.rn c.f.rc,
 .slice c.g.ao c.g.an c.g.ac,.slice c.g.p.vo c.g.p.vn c.g.p.vc,.slice c.g.p.co c.g.p.cn c.g.p.cc,.slice c.g.ro c.g.rn c.g.rc,
 .slice c.h.ao c.h.an c.h.ac,.slice c.h.p.vo c.h.p.vn c.h.p.vc,.slice c.h.p.co c.h.p.cn c.h.p.cc,.slice c.h.ro c.h.rn c.h.rc,
 .slice c.s.ao c.s.an c.s.ac,.slice c.s.p.vo c.s.p.vn c.s.p.vc,.slice c.s.p.co c.s.p.cn c.s.p.cc,.slice c.s.ro c.s.rn c.s.rc,c.v,c.u]
abbrev CzV (c:Cz):Value:=.agg (CzC c)
theorem CzC_size (c:Cz):(CzC c).size=18:=rfl
theorem cells_CzV (c:Cz):(CzV c).cells=CzC c:=by simp [Value.cells]
def CzBox (w:World) (g:Nat) (c:Cz):Prop:=w.heap[g]? = some (.cells (CzC c) 34 (0,0))
theorem CzBox.lt {c:Cz} (h:CzBox w g c):g < w.heap.size:=(Array.getElem?_eq_some_iff.1 h).1
theorem CzBox.below {c:Cz} (h:CzBox w g c) (hb:Below w.heap.size w w'):CzBox w' g c:=(hb.block g h.lt).trans h
theorem CzBox_new (w:World) (c:Cz):CzBox (w.alloc (.cells (CzC c) 34)) w.heap.size c:=by unfold CzBox;rw [heap_alloc_new]
theorem CzBox.fF {c:Cz} (h:CzBox w g c):FaAt w ⟨g,0,none⟩ (mkF c.f):=by
 unfold CzBox at h;refine ⟨?_,?_,?_,?_⟩ <;> simp [Addr.add,World.cell?,h,CzC,mkF]
theorem CzBox.gF {c:Cz} (h:CzBox w g c):FaAt w ⟨g,4,none⟩ (mkF c.g):=by
 unfold CzBox at h;refine ⟨?_,?_,?_,?_⟩ <;> simp [Addr.add,World.cell?,h,CzC,mkF]
theorem CzBox.hF {c:Cz} (h:CzBox w g c):FaAt w ⟨g,8,none⟩ (mkF c.h):=by
 unfold CzBox at h;refine ⟨?_,?_,?_,?_⟩ <;> simp [Addr.add,World.cell?,h,CzC,mkF]
structure CzU (W:World) (c:Cz):Prop where
 f:FcU W c.f
 g:FcU W c.g
 h:FcU W c.h
 s:FcU W c.s
theorem cellsCz:Tryz.prog.cellsOf 34=18:=by kernel_rfl
theorem cellsDs:Tryz.prog.cellsOf 32=1:=by kernel_rfl
theorem list18 {α : Type} {l:List α} (h:l.length=18):∃ a0 a1 a2 a3 b0 b1 b2 b3 c0 c1 c2 c3 d0 d1 d2 d3 e0 e1,l=[a0,a1,a2,a3,b0,b1,b2,b3,c0,c1,c2,c3,d0,d1,d2,d3,e0,e1]:=by
 match l,h with
 | [a0,a1,a2,a3,b0,b1,b2,b3,c0,c1,c2,c3,d0,d1,d2,d3,e0,e1],_=>exact ⟨_,_,_,_,_,_,_,_,_,_,_,_,_,_,_,_,_,_,rfl⟩
theorem list6 {α : Type} {l:List α} (h:l.length=6):∃ a0 a1 a2 a3 a4 a5,l=[a0,a1,a2,a3,a4,a5]:=by
 match l,h with
 | [a0,a1,a2,a3,a4,a5],_=>exact ⟨_,_,_,_,_,_,rfl⟩
theorem open_caseU {H:Type} {enc:TypeId × Value -> H} {W:World} {fuel:Nat} {cs:List Value} {x:DataW H × List MemPlace}
  (h:DataW.trod enc Tryz.prog W 0 (fun _=>true) true fuel 34 cs=some x) (hw:Rows.uptoBulk x.1 <= 1048576):∃ c:Cz,cs=(CzC c).toList/\CzU W c:=by
 obtain ⟨xs,m,_,hx,hcl,hxl,hf⟩:=DataW.trod_struct Tryz.underlying34 h;obtain ⟨a0,a1,a2,a3,b0,b1,b2,b3,c0,c1,c2,c3,d0,d1,d2,d3,e0,e1,rfl⟩:=list18 (hcl.trans cellsCz);obtain ⟨y0,y1,y2,y3,y4,y5,rfl⟩:=list6 hxl;have t0:=hf 0 _ rfl;have t1:=hf 1 _ rfl;have t2:=hf 2 _ rfl;have t3:=hf 3 _ rfl;simp [cellsFa,cellsSw] at t0 t1 t2 t3;subst hx;simp only [Rows.uptoBulk,List.map_cons,List.map_nil,Rows.uptoBulkAll] at hw;obtain ⟨f,ef,Sf⟩:=open_factsU t0 (by omega);obtain ⟨g,eg,Sg⟩:=open_factsU t1 (by omega);obtain ⟨k,eh,Sh⟩:=open_factsU t2 (by omega);obtain ⟨s,es,Ss⟩:=open_swotU t3 (by omega);simp only [FaC,mkF,List.cons.injEq,and_true] at ef eg eh es;obtain ⟨rfl,rfl,rfl,rfl⟩:=ef;obtain ⟨rfl,rfl,rfl,rfl⟩:=eg;obtain ⟨rfl,rfl,rfl,rfl⟩:=eh;obtain ⟨rfl,rfl,rfl,rfl⟩:=es;exact ⟨⟨f,g,k,s,e0,e1⟩,rfl,Sf,Sg,Sh,Ss⟩
end
end Go.Proofs.YthlbpeoiocdjlaaGreat
