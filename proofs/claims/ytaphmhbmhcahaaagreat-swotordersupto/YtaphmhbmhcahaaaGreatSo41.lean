/- LFn2 SXg BCs SXj SXn SXo SXp -/
import Derived.Test.YtaphmhbmhcahaaaGreatTk
import Derived.Test.YtaphmhbmhcahaaaGreatSo40
import Derived.Test.YtaphmhbmhcahaaaGreatSo19
import Derived.Test.YtaphmhbmhcahaaaGreatSo31
import Derived.Test.YtaphmhbmhcahaaaGreatSo34
import Derived.Test.YtaphmhbmhcahaaaGreatSo09
import Derived.Test.YtaphmhbmhcahaaaGreatSo28
set_option maxRecDepth 100000
set_option maxHeartbeats 6400000
namespace Go.Proofs.YtaphmhbmhcahaaaGreat.K
open Go.RowKit
attribute [local go_sem ↓] ld28_eq st28_eq ld26_eq run_eqD run_eq28
attribute [local go_sem] zero_EC cells_EV EC_size
attribute [local go_sem] cells_DV
end Go.Proofs.YtaphmhbmhcahaaaGreat.K
namespace Go.Proofs.YtaphmhbmhcahaaaGreat
section
open Go.RowKit
structure SwU (w:World) (s:Fc):Prop where
 ok:FcOk w s
 row:FcR s
 wt:∀ t,wt (ofS s.rs t) <= 8796093022207
 nm:s.rn * (s.an+1) <= 8796093022207
 rn:s.rn <= 2199023255551
theorem SwU.below {w w':World} {s:Fc} (h:SwU w s) (hb:Below w.heap.size w w'):SwU w' s:=⟨h.ok.below hb,h.row,h.wt,h.nm,h.rn⟩
theorem SwU.chk {w:World} {s:Fc} (h:SwU w s):Calls Tryz.prog 19 #[FaV (mkF s)] w fun e w'=>GivesK w w' e (ChkS s):=swCheck_any s w h.ok h.row h.wt h.nm h.rn
def KnOf (s:Fc) (d:Rn) (x:Int):Prop:=(¬ (FormS s/\dotIn s.p.P d)/\x=0)∨((FormS s/\dotIn s.p.P d)/\(∃ e∈s.es,dotOf e=d)/\x=1)∨((FormS s/\dotIn s.p.P d)/\(¬ ∃ e∈s.es,dotOf e=d)/\x=2)
theorem run_eqRV (x y:Rn) (w:World):(Op.equalIn 10000 43 (.agg (RC x)) (.agg (RC y))).run Tryz.prog w = .ok (x.lo == y.lo && x.hi == y.hi) w:=K.run_eqD ⟨x.lo,x.hi,⟨#[]⟩,0⟩ ⟨y.lo,y.hi,⟨#[]⟩,0⟩ w
attribute [local go_sem ↓] ldP_eq stP_eq ldSw_eq stSw_eq ldD_eq stD_eq K.ld28_eq K.st28_eq run_eqRV
attribute [local go_sem] cells_PV PC_size cells_FaV FaC_size cells_RV RC_size zero_RC K.cells_EV K.EC_size K.zero_EC
end
section
open Go.RowKit
variable {w w' W : World} {g : Nat}
structure Ks where
 ro:Option Addr
 rn:Nat
 rc:Nat
 qo:Option Addr
 qn:Nat
 qc:Nat
 ao:Option Addr
 an:Nat
 ac:Nat
 bo:Option Addr
 bn:Nat
 bc:Nat
 p:Pv
 o:Pv
def KsC (m:Ks):Array Value:=#[.slice m.ro m.rn m.rc,.slice m.qo m.qn m.qc,.slice m.ao m.an m.ac,.slice m.bo m.bn m.bc,.slice m.p.vo m.p.vn m.p.vc,.slice m.p.co m.p.cn m.p.cc,.slice m.o.vo m.o.vn m.o.vc,.slice m.o.co m.o.cn m.o.cc]
abbrev KsV (m:Ks):Value:=.agg (KsC m)
def RSm (R:List Rc):Prop:=R.length <= 209716/\∀ r∈R,r.p.P.cloud.length <= 1048576
structure KsS (w:World) (m:Ks) (R Q:List Rc) (A B:List K.En):Prop where
 r:RcS w m.ro m.rn m.rc R
 q:RcS w m.qo m.qn m.qc Q
 a:K.ESrc w m.ao m.an m.ac A
 b:K.ESrc w m.bo m.bn m.bc B
 p:PSrc w m.p
 o:PSrc w m.o
 sr:RSm R
 sq:RSm Q
 sa:m.an <= 1048576
 sb:m.bn <= 1048576
theorem wt_le (X:List Pv) (c:Nat) (h:∀ p∈X,p.P.cloud.length <= c):wt X <= X.length * (c+1):=by
 induction X with
 | nil=>exact Nat.zero_le _
 | cons p X ih =>
  have h1:=ih (fun q hq=>h q (List.mem_cons_of_mem _ hq));have h2:=h p List.mem_cons_self;simp only [wt,List.length_cons];rw [Nat.add_mul];omega
end
section
open Go.RowKit
structure SwB (N:Nat) (w:World) (s:Fc):Prop where
 ok:FcOk w s
 row:FcR s
 rn:s.rn <= N * 209716
 an:s.an <= N * 1048576
 cl:∀ r∈s.rs,r.p.P.cloud.length <= 1048576
theorem SwB.below {N:Nat} {w w':World} {s:Fc} (h:SwB N w s) (hb:Below w.heap.size w w'):SwB N w' s:=⟨h.ok.below hb,h.row,h.rn,h.an,h.cl⟩
theorem wt_cl {R:List Rc} (hn:R.length <= 838864) (hc:∀ r∈R,r.p.P.cloud.length <= 1048576) (t:ByteArray):wt (ofS R t) <= 8796093022207:=by
 have h1:=wt_le (ofS R t) 1048576 (fun p hp=>by obtain ⟨r,hr,-,rfl⟩:=ofS_mem.1 hp;exact hc r hr);have h2:=ofS_len R t;have h4:(ofS R t).length * (1048576+1) <= 838864 * (1048576+1):=Nat.mul_le_mul_right _ (by omega);omega
theorem nm_cl {n m:Nat} (hn:n <= 838864) (hm:m <= 4194304):n * (m+1) <= 8796093022207:=by
 have h3:n * (m+1) <= 838864 * (4194304+1):=Nat.mul_le_mul hn (by omega);omega
theorem SwB.u {N:Nat} {w:World} {s:Fc} (h:SwB N w s) (hN:N <= 4):SwU w s:=by
 have h1:=h.rn;have h2:=h.an;have h3:=h.ok.rs.len;exact ⟨h.ok,h.row,wt_cl (by omega) h.cl,nm_cl (by omega) (by omega),by omega⟩
open Classical in
theorem nodup_lenS {α : Type}:∀ {X Y:List α},X.Nodup -> (∀ x∈X,x∈Y) -> X.length <= Y.length
 | [],_,_,_=>Nat.zero_le _
 | a :: X,Y,h,hs=>by
  obtain ⟨h1,h2⟩:=List.nodup_cons.1 h;have ha:=hs a List.mem_cons_self;have h3:=nodup_lenS (Y:=Y.erase a) h2 (fun x hx=>(List.mem_erase_of_ne (fun e=>h1 (by rw [<- e];exact hx))).2 (hs x (List.mem_cons_of_mem _ hx)));have h4:=List.length_erase_of_mem ha;have h5:=List.length_pos_of_mem ha;rw [List.length_cons];omega
def SjD (a b s:Fc) (er:Int):Prop:=(¬ (FormS a/\FormS b)/\er=1/\s=fz0)∨((FormS a/\FormS b)/\∃ Z e,MgD a.es b.es a.p.P b.p.P Z e/\((e≠0/\er=e/\s=fz0)∨(e=0/\er=0/\∃ U,UnOf a.rs b.rs U/\s.es=Z.filter (freeB U)/\CanonOf (runsOf [a.p,b.p]) s.p.P/\WtOf U s.p.P s.rs)))
def SwJ (N:Nat) (w w':World) (e:Ending) (D:Fc -> Int -> Prop):Prop:=∃ s er,e = .returned (.tuple #[FaV (mkF s),.int .i64 er])/\SwB N w' s/\Below w.heap.size w w'/\D s er
def ChkBS (a b:Fc) (x:Int):Prop:=((FormS a/\FormS b)/\x=0)∨(¬ (FormS a/\FormS b)/\x=1)
theorem fz0_b (N:Nat) (w:World):SwB N w fz0:=⟨fz0_ok w,fz0_row,Nat.zero_le _,Nat.zero_le _,fun r h=>(by cases h)⟩
theorem kept_asc {A B Z:List K.En} {P O:Pst} (h:OkM A B P O) (ha:K.Asc Z) (hm:∀ x,x∈Z↔KeptM A B P O x):K.chk Z=0/\Z.length <= A.length+B.length:=by
 have hx:∀ x∈Z,x∈A∨x∈B:=fun x hx=>((hm x).1 hx).elim (fun k=>.inl k.1) (fun k=>.inr k.1);refine ⟨K.chk_asc ha (fun x h1=>(hx x h1).elim (chk_ce h.1 x) (chk_ce h.2.1 x)),?_⟩;have h1:Z.Nodup:=ha.imp (fun {a b} hab e=>by subst e;rw [K.ahead_irr] at hab;cases hab);have h2:=nodup_lenS (Y:=A++B) h1 (fun x h3=>List.mem_append.2 (hx x h3));rwa [List.length_append] at h2
theorem un_cl {L M F:List Rc} (u:UnOf L M F) (hl:∀ r∈L,r.p.P.cloud.length <= 1048576) (hm:∀ r∈M,r.p.P.cloud.length <= 1048576):∀ r∈F,r.p.P.cloud.length <= 1048576:=fun r hr=>by
 have h1:rck r∈plR F:=List.mem_map.2 ⟨r,hr,rfl⟩;rcases (u.1.2 _).1 h1 with h | h
 ·obtain ⟨x,hx,e⟩:=List.mem_map.1 h;have e2:x.p.P=r.p.P:=congrArg Prod.snd e;rw [<- e2];exact hl x hx
 ·obtain ⟨x,hx,e⟩:=List.mem_map.1 h;have e2:x.p.P=r.p.P:=congrArg Prod.snd e;rw [<- e2];exact hm x hx
theorem wt_clF {L F:List Rc} {P:Pst} (h:WtOf L P F) (hl:∀ r∈L,r.p.P.cloud.length <= 1048576):∀ r∈F,r.p.P.cloud.length <= 1048576:=fun r hr=>by
 have h1:rck r∈plR F:=List.mem_map.2 ⟨r,hr,rfl⟩;rw [h.2] at h1;obtain ⟨x,hx,e⟩:=List.mem_map.1 (List.mem_filter.1 h1).1;have e2:x.p.P=r.p.P:=congrArg Prod.snd e;rw [<- e2];exact hl x hx
theorem box2J (w:World) (f g:Fc):∃ wk,(w.alloc (.cells (FaC (mkF f)) 29)).alloc (.cells (FaC (mkF g)) 29)=wk/\Hid (SwBox wk w.heap.size (mkF f))/\Hid (SwBox wk (w.heap.size+1) (mkF g))/\Hid (Below w.heap.size w wk)/\wk.heap.size=w.heap.size+2:=by
 have b1:=below_new w (.cells (FaC (mkF f)) 29);have b2:=below_new (w.alloc (.cells (FaC (mkF f)) 29)) (.cells (FaC (mkF g)) 29);have X2:=SwBox_new (w.alloc (.cells (FaC (mkF f)) 29)) (mkF g);rw [World.size_alloc] at X2;exact ⟨_,rfl,(SwBox_new w (mkF f)).below b2,X2,b1.trans (b2.mono b1.size),by simp⟩
attribute [local go_sem ↓] ldP_eq stP_eq ldSw_eq stSw_eq bldS_eq bsPs_eq
attribute [local go_sem] cells_PV PC_size cells_FaV FaC_size zero_FaZ run_bsPs run_bldS run_bldS0 zero_PC
theorem swBoth_any (a b:Fc) (w:World) (hA:SwU w a) (hB:SwU w b):Calls Tryz.prog 34 #[FaV (mkF a),FaV (mkF b)] w fun e w'=>GivesK w w' e (ChkBS a b):=by
 obtain ⟨wk,hwk,HX,HY,HBK,-⟩:=box2J w a b;obtain ⟨G,hG0⟩:∃ G,w.heap.size=G:=⟨_,rfl⟩;rw [hG0] at HX HY;have HA:=hide (hA.below HBK.out);have HB:=hide (hB.below HBK.out);have l1:=run_ldSw HX.out;clear hA hB;go_enter Tryz.func34,Tryz.ntmps34;go_wp2_with fail;clear hwk hG0 l1;refine HA.out.chk.mono ?_;rintro e w3 ⟨x,rfl,hx,b3⟩;have HB3:=wTr HBK b3;have l2:=run_ldSw (HY.out.below b3);have HB':=hide (HB.out.below b3);clear b3;rcases hx with ⟨hf,rfl⟩ | ⟨hf,rfl⟩;rotate_left
 ·have HE:Hid (GivesK w w3 (.returned (.int .i64 1)) (ChkBS a b)):=⟨1,rfl,.inr ⟨fun h=>hf h.1,rfl⟩,HB3.out⟩;clear hf l2;go_wp2_with fail;go_ret;exact HE.out
 have HFa:=hide hf;clear hf;go_wp2_with fail;clear l2;refine HB'.out.chk.mono ?_;rintro e w4 ⟨x,rfl,hx,b4⟩;have HE:Hid (GivesK w w4 (.returned (.int .i64 x)) (ChkBS a b)):=⟨x,rfl,hx.elim (fun h=>.inl ⟨⟨HFa.out,h.1⟩,h.2⟩) (fun h=>.inr ⟨fun k=>h.1 k.2,h.2⟩),HB3.out.trans (b4.mono HB3.out.size)⟩;clear b4 hx;go_wp2_with fail;go_ret;exact HE.out
end
section
open Go.RowKit
attribute [local go_sem ↓] ldP_eq stP_eq ldSw_eq stSw_eq bldS_eq bsPs_eq
attribute [local go_sem] cells_PV PC_size cells_FaV FaC_size zero_FaZ run_bsPs run_bldS run_bldS0 zero_PC
theorem swJoin_any (N M:Nat) (hNM:N+M <= 4) (a b:Fc) (w:World) (hA:SwB N w a) (hB:SwB M w b):Calls Tryz.prog 11 #[FaV (mkF a),FaV (mkF b)] w fun e w'=>SwJ (N+M) w w' e (SjD a b):=by
 obtain ⟨w1,hw1,HX1,HY1,HB1,z1⟩:=box2J w a b;have b2:=below_new w1 (.cells (FaC (mkF fz0)) 29);have X2:=SwBox_new w1 (mkF fz0);rw [z1] at X2;obtain ⟨wk,hwk⟩:∃ w2,w1.alloc (.cells (FaC (mkF fz0)) 29)=w2:=⟨_,rfl⟩;rw [hwk] at b2 X2;have HX:=hide (HX1.out.below b2);have HY:=hide (HY1.out.below b2);have HBK:=wTr HB1 b2;obtain ⟨G,hG0⟩:∃ G,w.heap.size=G:=⟨_,rfl⟩;rw [hG0] at HX HY X2 z1;have HZ:=hide X2;have HGs:Hid (w.heap.size=G):=hG0;have HA:=hide (hA.below HBK.out);have HB:=hide (hB.below HBK.out);have HN:=hide hNM;have hrn:a.rn <= N * 209716/\a.an <= N * 1048576:=⟨hA.rn,hA.an⟩;have hqn:b.rn <= M * 209716/\b.an <= M * 1048576:=⟨hB.rn,hB.an⟩
 have HRN:Hid (a.rn+b.rn <= (N+M) * 209716/\a.an+b.an <= (N+M) * 1048576/\a.rn+b.rn <= 838864/\a.an+b.an <= 4194304):=by
  have e1:(N+M) * 209716=N * 209716+M * 209716:=Nat.add_mul _ _ _;have e2:(N+M) * 1048576=N * 1048576+M * 1048576:=Nat.add_mul _ _ _;exact ⟨by omega,by omega,by omega,by omega⟩
 have l1:=run_ldSw HX.out;have l2:=run_ldSw HY.out;clear hA hB b2 X2 HX1 HY1 HB1 hrn hqn hNM;go_enter Tryz.func11,Tryz.ntmps11;go_wp2_with fail;clear hw1 hwk hG0 z1 l1 l2;refine (swBoth_any a b _ (HA.out.u (by have:=HN.out;omega)) (HB.out.u (by have:=HN.out;omega))).mono ?_;rintro e w3 ⟨x,rfl,hx,b3⟩;have HB3:=hide b3;clear b3;rcases hx with ⟨hf,rfl⟩ | ⟨hf,rfl⟩;rotate_left
 ·have Az:=HZ.out.below HB3.out;have st:=run_stSw (m':=mkF fz0) Az;have HE1:Hid (SwBox (w3.setRow (G+2) (FaC (mkF fz0))) (G+2) (mkF fz0)):=Az.setRow;have HE:Hid (SwJ (N+M) w (w3.setRow (G+2) (FaC (mkF fz0))) (.returned (.tuple #[FaV (mkF fz0),.int .i64 1])) (SjD a b)):=⟨fz0,1,rfl,fz0_b _ _,below_setRow (HBK.out.trans (HB3.out.mono HBK.out.size)) (by rw [HGs.out];omega),.inl ⟨hf,rfl,rfl⟩⟩;clear hf Az;go_wp2_with fail;clear st;refine bodyPost_ret (res2Sw rfl rfl rfl HE1.out) rfl ?_;exact HE.out
 have HFo:=hide hf;clear hf;obtain ⟨c0,-⟩:=(HX.out.below HB3.out).cs;obtain ⟨d0,-⟩:=(HY.out.below HB3.out).cs;have lp:=run_ldP (HX.out.below HB3.out).past;have lq:=run_ldP (HY.out.below HB3.out).past;go_wp2_with fail;clear c0 d0 lp lq;refine (merge_any a.ao b.ao a.an a.ac b.an b.ac a.es b.es a.p b.p _ (HA.out.ok.es.below HB3.out) (HB.out.ok.es.below HB3.out) (HA.out.ok.p.below HB3.out) (HB.out.ok.p.below HB3.out)).mono ?_;rintro e w4 ⟨za,zn,zc,Z,er,rfl,SZ,b4,MD⟩;have HB4:=wTr HB3 b4;have HMD:=hide MD;have HSZ:=hide SZ;clear b4 MD SZ;by_cases h0:er=0;rotate_left
 ·have hz1:((er:Int) == 0)=false:=by simpa using h0
  have hz2:decide ((er:Int)=0)=false:=by simpa using h0
  have Az:=HZ.out.below HB4.out;have st:=run_stSw (m':=mkF fz0) Az;have HE1:Hid (SwBox (w4.setRow (G+2) (FaC (mkF fz0))) (G+2) (mkF fz0)):=Az.setRow;have HE:Hid (SwJ (N+M) w (w4.setRow (G+2) (FaC (mkF fz0))) (.returned (.tuple #[FaV (mkF fz0),.int .i64 er])) (SjD a b)):=⟨fz0,er,rfl,fz0_b _ _,below_setRow (HBK.out.trans (HB4.out.mono HBK.out.size)) (by rw [HGs.out];omega),.inr ⟨HFo.out,Z,er,HMD.out,.inl ⟨h0,rfl,rfl⟩⟩⟩;clear Az;go_wp2_with fail;clear st;refine bodyPost_ret (res2Sw rfl rfl rfl HE1.out) rfl ?_;exact HE.out
 subst h0
 have HKe:Hid (K.chk Z=0/\Z.length <= a.es.length+b.es.length):=by
  rcases HMD.out with ⟨-,-,h⟩ | ⟨-,-,-,h⟩ | ⟨h1,-,-,h2,h3⟩
  ·cases h
  ·cases h
  ·exact kept_asc h1 h2 h3
 have lp:=run_ldP (HX.out.below HB4.out).past;have lq:=run_ldP (HY.out.below HB4.out).past;have hPR:=prow2 w4 a.p b.p (HA.out.ok.p.below HB4.out) (HB.out.ok.p.below HB4.out);have b7:=below_new w4 (.cells #[.slice a.p.vo a.p.vn a.p.vc,.slice a.p.co a.p.cn a.p.cc,.slice b.p.vo b.p.vn b.p.vc,.slice b.p.co b.p.cn b.p.cc] 26);have lb:=run_bsPs a.p b.p w4;obtain ⟨g7,hg7⟩:∃ g7,w4.heap.size=g7:=⟨_,rfl⟩;obtain ⟨w7,hw7⟩:∃ w7,w4.alloc (.cells #[.slice a.p.vo a.p.vn a.p.vc,.slice a.p.co a.p.cn a.p.cc,.slice b.p.vo b.p.vn b.p.vc,.slice b.p.co b.p.cn b.p.cc] 26)=w7:=⟨_,rfl⟩;rw [hw7] at hPR b7 lb;rw [hg7] at hPR lb;have HPR:=hide hPR;have HB7:=wTr HB4 b7;have HZ7:=hide (HSZ.out.below b7);clear hPR b7;go_wp2_with fail;clear lp lq lb hg7 hw7;refine (pastJoin_any (some ⟨g7,0,none⟩) 2 2 [a.p,b.p] _ HPR.out (bsP2_wt HFo.out.1.1.2.1 HFo.out.2.1.2.1) (by decide)).mono ?_
 rintro e wq ⟨q,rfl,Sq,-,bq,Cq⟩;obtain ⟨g8,hg8⟩:∃ g,wq.heap.size=g:=⟨_,rfl⟩;obtain ⟨w8,hst,X8,B8,-⟩:=madeP wq q g8 hg8;have b78:=bq.trans (B8.mono bq.size);have HB8:=wTr HB7 b78;have HZ8:=hide (HZ7.out.below b78);have HQ8:Hid (PBox w8 g8 q/\PSrc w8 q):=⟨X8,Sq.below B8⟩;have HCq:=hide Cq;clear Sq bq Cq X8 B8 b78;obtain ⟨-,c3⟩:=(HX.out.below HB8.out).cs;obtain ⟨-,d3⟩:=(HY.out.below HB8.out).cs;go_wp2_with fail;clear c3 d3 hst hg8;refine (keepUnion_any a.ro b.ro a.rn a.rc b.rn b.rc a.rs b.rs _ ((HA.out.ok.row HA.out.row).below HB8.out) ((HB.out.ok.row HB.out.row).below HB8.out) (by have:=HRN.out;omega)).mono ?_;rintro e w9 (⟨-,-,⟨uo,un,uc⟩,U,rfl,GU,nU,UU⟩ | ⟨hno,-,-⟩);rotate_left
 ·exact absurd ⟨HFo.out.1.1.2.2,HFo.out.2.1.2.2⟩ hno
 have HB9:=wTr HB8 GU.below;have HZ9:=hide (HZ8.out.below GU.below);have HQ9:Hid (PBox w9 g8 q/\PSrc w9 q):=⟨HQ8.out.1.below GU.below,HQ8.out.2.below GU.below⟩;have HU:Hid (RcT w9 uo un uc U/\UnOf a.rs b.rs U/\un <= a.rn+b.rn/\U.length=un):=⟨GU.row,UU,nU,GU.src.len⟩;have HUc:=hide (un_cl HU.out.2.1 HA.out.cl HB.out.cl)
 have HUO:Hid (OkR U un):=by have h:=HU.out.2.1.ok;rw [HU.out.2.2.2] at h;exact h
 rw [show HsV ⟨uo,un,uc⟩=Value.slice uo un uc from rfl];clear GU nU UU
 have HZn:Hid (zn <= a.an+b.an):=by
  have h1:=HKe.out.2;have h2:=HSZ.out.1;have h3:=HA.out.ok.es.1;have h4:=HB.out.ok.es.1
  show zn <= a.an+b.an
  omega
 go_wp2_with fail;refine (apply_any za uo zn zc un uc Z U _ HZ9.out HU.out.1.src (wt_cl (by have:=HU.out.2.2;have:=HRN.out;omega) HUc.out) (nm_cl (by have:=HU.out.2.2;have:=HRN.out;omega) (by have:=HZn.out;have:=HRN.out;omega))).mono ?_;rintro e wa (⟨-,-,ya,yn,yc,rfl,SY,ba,-⟩ | ⟨hno,-⟩);rotate_left
 ·exact absurd ⟨HKe.out.1,HUO.out⟩ hno
 have HBa:=wTr HB9 ba;have HQa:Hid (PBox wa g8 q/\PSrc wa q):=⟨HQ9.out.1.below ba,HQ9.out.2.below ba⟩;have HUa:=hide (HU.out.1.below ba);have HYa:=hide SY
 have HYn:Hid (yn <= a.an+b.an):=by
  have h1:=SY.1;have h2:=List.length_filter_le (freeB U) Z;have h3:=HSZ.out.1;have h4:=HZn.out
  show yn <= a.an+b.an
  omega
 clear SY ba
 have lp:=run_ldP HQa.out.1.at
 go_wp2_with fail;clear lp;refine (keepWaits_any uo un uc U q _ HUa.out HQa.out.2 (by have:=HU.out.2.2;have:=HRN.out;omega)).mono ?_;rintro e wb (⟨-,-,⟨fo,fn,fc⟩,F,rfl,GF,nF,WF⟩ | ⟨hno,-,-⟩);rotate_left
 ·exact absurd ⟨HUO.out,canon_iff.1 HCq.out.canon⟩ hno
 have HBb:=wTr HBa GF.below;have HQb:Hid (PBox wb g8 q/\PSrc wb q):=⟨HQa.out.1.below GF.below,HQa.out.2.below GF.below⟩;have HYb:=hide (HYa.out.below GF.below);have Az:=HZ.out.below HBb.out;have st:=run_stSw (m':=mkF ⟨ya,yn,yc,[],q,fo,fn,fc,[]⟩) Az;have HE1:Hid (SwBox (wb.setRow (G+2) (FaC (mkF ⟨ya,yn,yc,[],q,fo,fn,fc,[]⟩))) (G+2) (mkF ⟨ya,yn,yc,Z.filter (freeB U),q,fo,fn,fc,F⟩)):=Az.setRow
 have HE:Hid (SwJ (N+M) w (wb.setRow (G+2) (FaC (mkF ⟨ya,yn,yc,[],q,fo,fn,fc,[]⟩))) (.returned (.tuple #[FaV (mkF ⟨ya,yn,yc,Z.filter (freeB U),q,fo,fn,fc,F⟩),.int .i64 0])) (SjD a b)):=
  ⟨_,0,rfl,⟨FcOk.offW (f:=⟨ya,yn,yc,Z.filter (freeB U),q,fo,fn,fc,F⟩) ⟨HYb.out,HQb.out.2,GF.src⟩ Az _,⟨GF.room,GF.nil⟩,by have h1:=HU.out.2.2.1;have h2:=HRN.out.1;have h3:fn <= un:=nF;show fn <= _;omega,by have h1:=HYn.out;have h2:=HRN.out.2.1;show yn <= _;omega,wt_clF WF HUc.out⟩,
   below_setRow (HBK.out.trans (HBb.out.mono HBK.out.size)) (by rw [HGs.out];omega),.inr ⟨HFo.out,Z,0,HMD.out,.inr ⟨rfl,rfl,U,HU.out.2.1,rfl,HCq.out,WF⟩⟩⟩
 have lp:=run_ldP HQb.out.1.at
 rw [show HsV ⟨fo,fn,fc⟩=Value.slice fo fn fc from rfl];clear GF nF WF Az;go_wp2_with fail;clear lp st;refine bodyPost_ret (res2Sw rfl rfl rfl HE1.out) rfl ?_;exact HE.out
end
section
open Go.RowKit
def G1D (s:Fc):Prop:=s.es=[]/\s.an=0/\s.p.P=sxP/\s.rs=[]/\s.rn=0/\s.rc=0
theorem run_bldS1 (v:Option Addr) (m d:Nat) (w:World):(bldS #[(1,.agg #[.slice v m d,.slice none 0 0])]).run Tryz.prog w = .ok (.agg #[.slice none 0 0,.slice v m d,.slice none 0 0,.slice none 0 0]) w:=by kernel_rfl
attribute [local go_sem ↓] ldP_eq stP_eq ldSw_eq stSw_eq bldS_eq bldP_eq
attribute [local go_sem] cells_PV PC_size cells_FaV FaC_size zero_FaZ run_bldS1 run_bldP1
theorem gone1_any (w:World):Calls Tryz.prog 30 #[] w fun e w'=>SwS w w' e G1D:=by
 have b0:=below_new w (.cells (FaC (mkF fz0)) 29);have X0:=SwBox_new w (mkF fz0);obtain ⟨w0,hw0⟩:∃ w0,w.alloc (.cells (FaC (mkF fz0)) 29)=w0:=⟨_,rfl⟩;obtain ⟨G,hG⟩:∃ G,w.heap.size=G:=⟨_,rfl⟩;rw [hw0] at b0 X0;rw [hG] at X0;have HX:=hide X0;have HB:=hide b0;have HGs:Hid (w.heap.size=G):=hG;clear b0 X0;obtain ⟨g4,hg4⟩:∃ g,w0.heap.size=g:=⟨_,rfl⟩;have V5:=vsrc_lit w0 3 #[.int .i64 1] [1] rfl g4 1 hg4 rfl;have b5:=below_new w0 (.cells #[.int .i64 1] 3);obtain ⟨w5,hw5⟩:∃ w5,w0.alloc (.cells #[.int .i64 1] 3)=w5:=⟨_,rfl⟩;rw [hw5] at V5 b5;have A5:=HX.out.below b5;have HB5:=wTr HB b5;have HF5:FcOk w5 ⟨none,0,0,[],⟨some ⟨g4,0,none⟩,1,1,none,0,0,sxP⟩,none,0,0,[]⟩:=⟨(fz0_ok w5).es,⟨V5,SSrc.empty _,(show (1:Nat) <= 17592186044415 by decide)⟩,RcS.empty _⟩;have HE1:Hid (SwBox (w5.setRow G (FaC (mkF ⟨none,0,0,[],⟨some ⟨g4,0,none⟩,1,1,none,0,0,sxP⟩,none,0,0,[]⟩))) G (mkF ⟨none,0,0,[],⟨some ⟨g4,0,none⟩,1,1,none,0,0,sxP⟩,none,0,0,[]⟩)):=A5.setRow
 have HE:Hid (SwS w (w5.setRow G (FaC (mkF ⟨none,0,0,[],⟨some ⟨g4,0,none⟩,1,1,none,0,0,sxP⟩,none,0,0,[]⟩))) (.returned (FaV (mkF ⟨none,0,0,[],⟨some ⟨g4,0,none⟩,1,1,none,0,0,sxP⟩,none,0,0,[]⟩))) G1D):=⟨_,rfl,HF5.offW A5 _,below_setRow HB5.out (by rw [HGs.out];exact Nat.le_refl _),rfl,rfl,rfl,rfl,rfl,rfl⟩;have stz:=run_stSw (m':=mkF ⟨none,0,0,[],⟨some ⟨g4,0,none⟩,1,1,none,0,0,sxP⟩,none,0,0,[]⟩) A5;replace stz:(stSw (.pointer (some ⟨G,0,none⟩)) (.agg #[.slice none 0 0,.slice (some ⟨g4,0,none⟩) 1 1,.slice none 0 0,.slice none 0 0])).run Tryz.prog w5 = .ok () (w5.setRow G (FaC (mkF ⟨none,0,0,[],⟨some ⟨g4,0,none⟩,1,1,none,0,0,sxP⟩,none,0,0,[]⟩))):=stz;clear V5 b5 A5 HF5;go_enter Tryz.func30,Tryz.ntmps30;go_wp2_with fail;refine bodyPost_ret (res1Sw rfl rfl HE1.out) rfl ?_;exact HE.out
theorem sx_form:InForm sxP:=⟨by decide,trivial⟩
theorem a1_form {s:Fc} (h:A1D s):FormS s:=by
 obtain ⟨h1,h2,h3,h4,h5,-⟩:=h;refine ⟨⟨by rw [h1,h2];decide +kernel,by rw [h3];exact sx_form,by rw [h4,h5];intro j hj;omega⟩,?_,?_,?_⟩
 ·rw [h1,h3];intro e he;obtain rfl:=List.mem_singleton.1 he;decide +kernel
 ·rw [h4];intro r hr;cases hr
 ·rw [h4];intro e he;rfl
theorem g1_form {s:Fc} (h:G1D s):FormS s:=by
 obtain ⟨h1,h2,h3,h4,h5,-⟩:=h;refine ⟨⟨by rw [h1,h2];rfl,by rw [h3];exact sx_form,by rw [h4,h5];intro j hj;omega⟩,?_,?_,?_⟩
 ·rw [h1];intro e he;cases he
 ·rw [h4];intro r hr;cases hr
 ·rw [h1];intro e he;cases he
theorem A1D.b {w:World} {s:Fc} (h:A1D s) (hF:FcOk w s):SwB 1 w s:=by
 obtain ⟨h1,h2,h3,h4,h5,h6⟩:=h;exact ⟨hF,⟨by omega,fun _=>h6⟩,by omega,by omega,by rw [h4];intro r hr;cases hr⟩
theorem G1D.b {w:World} {s:Fc} (h:G1D s) (hF:FcOk w s):SwB 1 w s:=by
 obtain ⟨h1,h2,h3,h4,h5,h6⟩:=h;exact ⟨hF,⟨by omega,fun _=>h6⟩,by omega,by omega,by rw [h4];intro r hr;cases hr⟩
end
section
open Go.RowKit
attribute [local go_sem ↓] ldSw_eq stSw_eq bldS_eq
attribute [local go_sem] cells_FaV FaC_size zero_FaZ run_bldS0
end
end Go.Proofs.YtaphmhbmhcahaaaGreat
