/- YEh YEi YEj YFa YFb -/
import Derived.Test.YtjffpimfngdggaaGreatTk
import Derived.Test.YtjffpimfngdggaaGreatFs43
import Derived.Test.YtjffpimfngdggaaGreatFs13
import Derived.Deep.MidRow
import Derived.Test.YtjffpimfngdggaaGreatFs09
import Derived.Test.YtjffpimfngdggaaGreatFs37
import Derived.Test.YtjffpimfngdggaaGreatFs36
import Derived.Test.YtjffpimfngdggaaGreatFs31
import Derived.Test.YtjffpimfngdggaaGreatFs38
set_option maxRecDepth 100000
set_option maxHeartbeats 3200000
namespace Go.Proofs.YtjffpimfngdggaaGreat
section
open Go.RowKit
attribute [local go_sem ↓] zr zq zD zC zL zK xA
attribute [local go_sem] zi zk zE zl zp zv qW vD vE vC
theorem kf (a b:Fc) (w:World) (hF:FcOk w a) (hG:FcOk w b) (hE:EqS a b):Calls Tryz.prog 12 #[FaV (mkF a),FaV (mkF b)] w fun e w'=>e = .returned (.bool true)/\Below w.heap.size w w':=by
 obtain ⟨wk,hwk,HX,HY,HBK⟩:=box2F w a b;obtain ⟨G,hG0⟩:∃ G,w.heap.size=G:=⟨_,rfl⟩;rw [hG0] at HX HY;have HF:=hide (hF.below HBK.out);have HG:=hide (hG.below HBK.out);have HE:=hide hE;clear hF hG hE;have c0:=HX.out.cs.1;have d0:=HY.out.cs.1;go_enter Tryz.func12,Tryz.ntmps12;go_wp2_with fail;clear hwk hG0 c0 d0;refine (xW a.ao b.ao a.an b.an a.ac b.ac a.es b.es _ HF.out.es HG.out.es).mono ?_;rintro e w3 ⟨x,rfl,hx,b3⟩;obtain rfl:x=true:=hx.2 HE.out.1;have HB3:=hide b3;clear hx b3;have lp:=zj (HX.out.below HB3.out).past;have lq:=zj (HY.out.below HB3.out).past;go_wp2_with fail;clear lp lq;refine (xe a.p b.p _ (HF.out.below HB3.out).p (HG.out.below HB3.out).p).mono ?_;rintro e w4 ⟨x,rfl,hx,b4⟩;obtain rfl:x=true:=hx.2 HE.out.2.1;have HB4:=wTr HB3 b4;clear hx b4;have c3:=(HX.out.below HB4.out).cs.2
 have d3:=(HY.out.below HB4.out).cs.2;go_wp2_with fail;clear c3 d3;refine (xV a.ro b.ro a.rn b.rn a.rc b.rc a.rs b.rs _ (HF.out.below HB4.out).rs (HG.out.below HB4.out).rs).mono ?_;rintro e w5 ⟨x,rfl,hx,b5⟩;obtain rfl:x=true:=hx.2 HE.out.2.2;have HB5:=hide (HBK.out.trans ((HB4.out.trans (b5.mono HB4.out.size)).mono HBK.out.size));clear hx b5;go_wp2_with fail;go_ret;exact ⟨rfl,HB5.out⟩
def XpE (s h:Fc):Prop:=XpD s h/\plR h.rs=plR s.rs/\∀ r∈h.rs,RecOk r
theorem ziW {r r':Rc} (h:rck r=rck r'):r.p.P=r'.p.P:=congrArg Prod.snd h
theorem ziI {s h:Fc} (hr:s.rs.length=s.rn) (fs:FormS s) (hL:LrOf s.rs [] h.rs):plR h.rs=plR s.rs:=by
 have h1:Srt ck (plR s.rs):=(xH.1 (by rw [hr];exact fs.1.2.2)).2;refine Srt.uniq jv hL.1 h1 fun y=>?_;rw [hL.2.2 y];exact ⟨And.left,fun k=>⟨k,fun q=>by cases q⟩⟩
theorem zhR {s h:Fc} (x:XpD s h) (e:K.En):inB h.p.P e=true↔inB s.p.P e=true/\¬ ∃ y∈s.es,dotOf y=dotOf e:=by
 obtain ⟨-,p,hp,hm⟩:=x;rw [hm.inB];refine and_congr_right fun k=>not_congr ?_;rw [zbn hp];constructor
 ·rintro (⟨-,q⟩ | q)
  ·exact q
  ·have q':inB pv0.P e=true:=q;rw [zjb] at q';cases q'
 ·intro q;exact .inl ⟨zcX k,q⟩
end
section
open Go.RowKit
variable {w w' : World} {g : Nat}
structure SpR where
 a:Int
 z:Int
 b:Int
def sp0:SpR:=⟨0,0,0⟩
def SpC (m:SpR):Array Value:=#[.int .i64 m.a,.int .i64 m.z,.int .i64 m.b]
abbrev SpV (m:SpR):Value:=.agg (SpC m)
theorem zdn (m:SpR):(SpC m).size=3:=rfl
theorem zbv (m:SpR):(SpV m).cells=SpC m:=by simp [Value.cells]
structure SpAt (w:World) (a:Addr) (m:SpR):Prop where
 c0:w.cell? a=some (.int .i64 m.a)
 c1:w.cell? (a.add 1)=some (.int .i64 m.z)
 c2:w.cell? (a.add 2)=some (.int .i64 m.b)
def SpBox (w:World) (g:Nat) (m:SpR):Prop:=w.heap[g]? = some (.cells (SpC m) 60 (0,0))
theorem SpBox.c1 {m:SpR} (h:SpBox w g m):w.cell? ⟨g,1,none⟩=some (.int .i64 m.z):=by unfold SpBox at h;simp [World.cell?,h,SpC]
theorem SpBox.c2 {m:SpR} (h:SpBox w g m):w.cell? ⟨g,2,none⟩=some (.int .i64 m.b):=by unfold SpBox at h;simp [World.cell?,h,SpC]
def ldSp (v:Value):Sem Value:=Instr.loadAt 60 v
theorem zeY (v:Value):Instr.loadAt 60 v=ldSp v:=rfl
def stSp (p v:Value):Sem Unit:=Instr.storeAt 60 p v
theorem zef (p v:Value):Instr.storeAt 60 p v=stSp p v:=rfl
end
section
open Go.RowKit
attribute [local go_sem ↓] zr zq zD zC zL zK xA
attribute [local go_sem] zi zk zE zl zp zv qW vD vE vC
theorem wf (N:Nat) (hN:N <= 4) (s:Fc) (w:World) (hS:SwB N w s) (hf:FormS s):Calls Tryz.prog 15 #[FaV (mkF s)] w fun e w'=>∃ h,e = .returned (.tuple #[FaV (mkF h),.int .i64 0])/\SwB N w' h/\Below w.heap.size w w'/\XpE s h:=by
 obtain ⟨wk,hwk,HX,HZ,HBK⟩:=boxSF w s;obtain ⟨G,hG0⟩:∃ G,w.heap.size=G:=⟨_,rfl⟩;rw [hG0] at HX HZ;have HGs:Hid (w.heap.size=G):=hG0;have HU:=hide ((hS.below HBK.out).u hN);have HS:=hide (hS.below HBK.out);have HFs:=hide hf;clear hS hf;have l0:=zR HX.out;go_enter Tryz.func15,Tryz.ntmps15;go_wp2_with fail;clear hwk hG0 l0;refine (HU.out.chk).mono ?_;rintro e w3 ⟨z,rfl,hz,b3⟩
 obtain rfl:z=0:=by
  rcases hz with ⟨-,h⟩ | ⟨h,-⟩
  ·exact h
  ·exact absurd HFs.out h
 have HB3:=hide b3;clear b3 hz;have c0:=(HX.out.below HB3.out).cs.1;go_wp2_with fail;clear c0;have HNd:Hid (FcOk w3 (ndE s)):=⟨(HS.out.ok.below HB3.out).es,PSrc.zero _,RcS.empty _⟩;refine (wQ (ndE s) _ HNd.out).mono ?_;rintro e v4 ⟨p,er,rfl,Sp,-,b4,hp⟩
 obtain ⟨rfl,hH⟩:er=0/\HeardOf (ndE s) p.P:=by
  rcases bY hp with ⟨h,-⟩ | ⟨-,h,k⟩
  ·exact absurd (zcL HFs.out) h
  ·exact ⟨h,k⟩
 obtain ⟨g4,hg4⟩:∃ g,v4.heap.size=g:=⟨_,rfl⟩;obtain ⟨w4,hst,X4,B4,-⟩:=madeP v4 p g4 hg4;have b44:=b4.trans (B4.mono b4.size);have HB4:=wTr HB3 b44;have HX4:=hide X4;have HSp:=hide (Sp.below B4);have HH:=hide hH;clear Sp b4 hp hH X4 B4 b44;have c0:=(HX.out.below HB4.out).cs.1;have c3:=(HX.out.below HB4.out).cs.2;have lp:=zj (HX.out.below HB4.out).past
 have lq:=zj HX4.out.at
 go_wp2_with fail;clear c0 c3 lp lq hst hg4;have HL:Hid (FcOk w4 ⟨none,0,0,[],p,none,0,0,[]⟩):=⟨(zcZ _).es,HSp.out,RcS.empty _⟩;refine (zaP s ⟨none,0,0,[],p,none,0,0,[]⟩ _ (HS.out.ok.below HB4.out) HL.out (by have:=HS.out.rn;omega)).mono ?_;rintro e w5 ⟨h,er,rfl,Fh,Rh,-,b5,hh⟩
 obtain ⟨rfl,hL⟩:er=0/\LeOf s ⟨none,0,0,[],p,none,0,0,[]⟩ h:=by
  rcases hh with ⟨k,-⟩ | ⟨-,-,k,q⟩
  ·exact absurd ⟨⟨HFs.out.1.1,HFs.out.1.2.1,HFs.out.1.2.2⟩,⟨rfl,HH.out.1,fun j hj=>absurd hj (Nat.not_lt_zero _)⟩⟩ k
  ·exact ⟨k,q⟩
 have HB5:=wTr HB4 b5;have A5:=HZ.out.below HB5.out;have st:=qG (m':=mkF h) A5;have HE1:Hid (FaBox (w5.setRow (G+1) (FaC (mkF h))) (G+1) (mkF h)):=A5.setRow
 have HE:Hid (∃ h',Ending.returned (.tuple #[FaV (mkF h),.int .i64 0]) = .returned (.tuple #[FaV (mkF h'),.int .i64 0])/\SwB N (w5.setRow (G+1) (FaC (mkF h))) h'/\Below w.heap.size w (w5.setRow (G+1) (FaC (mkF h)))/\XpE s h'):=by
  have e1:h.es=s.es:=by
   rw [hL.1];exact List.filter_eq_self.2 fun e _=>x4.2 (fun k=>by cases k)
  have e2:plR h.rs=plR s.rs:=ziI HS.out.ok.rs.len HFs.out hL.2.2.1
  have e3:h.an <= N * 1048576:=by
   have h1:=Fh.es.1;have h2:=HS.out.ok.es.1;have h3:=HS.out.an;rw [e1] at h1;omega
  have e4:h.rn <= N * 209716:=Nat.le_trans hL.2.2.2 HS.out.rn;refine ⟨h,rfl,(show SwB N w5 h from ⟨Fh,Rh,e4,e3,fun r hr=>?_⟩).offFa A5 _,zh (HBK.out.trans (HB5.out.mono HBK.out.size)) (by rw [HGs.out];omega),⟨e1,p.P,HH.out,hL.2.1⟩,e2,hL.2.2.1.2.1⟩
  have h1:rck r∈plR s.rs:=by rw [<- e2];exact List.mem_map.2 ⟨r,hr,rfl⟩
  obtain ⟨r',hr',e⟩:=List.mem_map.1 h1;rw [<- ziW e];exact HS.out.cl r' hr'
 clear Fh Rh b5 hh hL A5;go_wp2_with fail;clear st;refine bodyPost_ret (res2Fb rfl rfl rfl HE1.out) rfl ?_;exact HE.out
theorem boxFF (w:World) (f:Fc):∃ wk,(w.alloc (.cells (FaC (mkF f)) 29)).alloc (.cells (FaC (mkF fz0)) 29)=wk/\Hid (FaBox wk w.heap.size (mkF f))/\Hid (FaBox wk (w.heap.size+1) (mkF fz0))/\Hid (Below w.heap.size w wk):=box2F w f fz0
def PrD (f h:Fc) (er:Int):Prop:=(¬ FormF f/\er=1)∨(FormF f/\er=0/\∃ s,StD f s/\FormS s/\s.es.length=s.an/\s.rs.length=s.rn/\XpE s h)
def bldSpc (a:Array (Nat × Value)):Sem Value:=Instr.build 60 a
theorem zfA (a:Array (Nat × Value)):Instr.build 60 a=bldSpc a:=rfl
theorem zdw (a b c:Int) (w:World):(bldSpc #[(0,.int .i64 a),(1,.int .i64 b),(2,.int .i64 c)]).run Tryz.prog w = .ok (.agg #[.int .i64 a,.int .i64 b,.int .i64 c]) w:=by kernel_rfl
theorem wrapZ:IntKind.i64.wrap 0=0:=by decide
theorem zcs:(#[.int .i64 0,.int .i64 0,.int .i64 0]:Array Value)=SpC sp0:=rfl
attribute [local go_sem ↓] zfA zeY zef
attribute [local go_sem] zdw wrapZ zbv zdn zcs
end
section
open Go.RowKit
section
attribute [local go_sem ↓] zr zq qh qg K.zy K.zx
attribute [local go_sem] zi zk
theorem takeM (L:List K.En) (k:Nat) (h:k < L.length):(L.take (k+1)).map dotOf=(L.take k).map dotOf++[dotOf (L.getD k K.en0)]:=by
 rw [K.jr L k h,List.map_append];rfl
theorem kN (ao:Option Addr) (n cap:Nat) (L:List K.En) (w:World) (hS:K.ESrc w ao n cap L):Calls Tryz.prog 74 #[.slice ao n cap] w fun x w'=>GivesP w w' x (CanonOf (dotsG (L.map dotOf))):=by
 have b1:=ze w (.cells #[.slice none 0 0,.slice none 0 0] 26);have x1:PBox (w.alloc (.cells #[.slice none 0 0,.slice none 0 0] 26)) w.heap.size pv0:=zm w pv0;obtain ⟨w2,hw1⟩:∃ w1,w.alloc (.cells #[.slice none 0 0,.slice none 0 0] 26)=w1:=⟨_,rfl⟩;obtain ⟨g1,hg1⟩:∃ g1,w.heap.size=g1:=⟨_,rfl⟩;rw [hw1] at b1 x1;rw [hg1] at x1;have HX2:Hid (PBox w2 g1 pv0/\K.ESrc w2 ao n cap L/\w.heap.size=g1):=⟨x1,hS.below b1,hg1⟩;have HB2:=hide b1;have HL:Hid (L.length=n/\n <= 3518437208883):=⟨hS.1,hS.2.2.2.2⟩;have hnb:=HL.out.2;clear b1 x1 hS;go_enter Tryz.func74,Tryz.ntmps74;go_wp2_with fail;clear hw1 hg1;go_loopw [3,4] (fun v i wr=>∃ (k:Nat) (ap:Option Addr) (c:Nat),k <= n/\v = .slice ap k c/\i = .int .i64 (k:Int)/\Hid (OwnD w2.heap.size w2.heap.size w2 wr ap c ((L.take k).map dotOf))) (fun _ i _=>n - (intOf i).toNat)
 case atStart=>exact ⟨0,none,0,Nat.zero_le _,rfl,rfl,World.ownsRow_nil _ _ _ _,Below.refl _ _,Nat.le_refl _,Nat.le_refl _⟩
 case round =>
  obtain ⟨k,ap,c,hk,rfl,rfl,HO⟩:=hrel
  rename World=>wr
  obtain ⟨acc,Hacc⟩:∃ acc,Hid ((L.take k).map dotOf=acc):=⟨_,rfl⟩
  have Hal:Hid (acc.length=k):=by show _=_;rw [<- Hacc.out,List.length_map,List.length_take];have:=HL.out.1;omega
  rw [Hacc.out] at HO;by_cases hlt:k < n
  ·have hlti:(k:Int) < (n:Int):=by omega
   obtain ⟨ad,hao,A0⟩:=(HX2.out.2.1.below HO.out.below).at k hlt;subst hao;obtain ⟨e,He⟩:∃ e,Hid (L.getD k K.en0=e):=⟨_,rfl⟩;rw [He.out] at A0
   have HN:Hid ((L.take (k+1)).map dotOf=acc++[dotOf e]):=by
    show _=_
    rw [takeM L k (by rw [HL.out.1];exact hlt),Hacc.out,He.out]
   have l7:(ldD (.pointer (some (ad.add (k * 4))))).run Tryz.prog wr = .ok (.agg #[.int .i64 e.rep,.int .i64 e.num]) wr:=qm (r:=⟨e.rep,e.num⟩) ⟨A0.c0,A0.c1⟩;have Hlt:=hide hlt;clear A0 hlt hk;go_wp2_with (at_builtin;go_loud (refine (HO.out.later (ze wr _)).appendS [dotOf e] (some ⟨wr.heap.size,0,none⟩) 1 1 (zcO wr [dotOf e] _ rfl 48 1 rfl (by omega)) (by have:=Hal.out;have:=Hlt.out;omega) rfl (.tmp 11) (.tmp 17) rfl k Hal.out rfl rfl ?_);intro ao8 c8 w8 O8;have HO8:=hide O8;clear O8);clear l7;go_roundw
   case rel=>exact ⟨k+1,ao8,c8,Hlt.out,rfl,by simp,by show OwnD _ _ _ _ _ _ _;rw [HN.out];exact HO8.out⟩
   case measure=>simp [intOf];have:=Hlt.out;omega
  ·have hlti:¬ (k:Int) < (n:Int):=by omega
   obtain rfl:k=n:=by omega
   have HAc:Hid (acc=L.map dotOf):=by show _=_;rw [<- Hacc.out,List.take_of_length_le (by have:=HL.out.1;omega)]
   obtain ⟨hsr,hnw⟩:=HO.out.src (by have:=Hal.out;omega)
   have hsr2:RSrc wr ap k c acc:=by have:=Hal.out;rw [this] at hsr;exact hsr
   have HC7:=hide (zex ap k c acc wr hsr2 (by omega));have HBr:=wTr HB2 HO.out.below;have HXr:=hide (HX2.out.1.below HO.out.below);have HG:Hid (w.heap.size=g1/\g1 < wr.heap.size):=⟨HX2.out.2.2,HXr.out.lt⟩;clear hsr hnw hsr2;go_wp2_with fail;refine HC7.out.mono ?_;rintro x w8 ⟨p,rfl,S8,n8,b8,c8⟩;have X8:=HXr.out.below b8;have t8:=qV (p':=p) X8;have HX8:Hid (PBox (w8.setRow g1 (PC p)) g1 p):=setRow_heap _ _ _ _ _ _ X8
   have HE:Hid (PSrc (w8.setRow g1 (PC p)) p/\PNew w.heap.size p/\Below w.heap.size w (w8.setRow g1 (PC p))/\CanonOf (dotsG (L.map dotOf)) p.P):=
    ⟨jd S8 (fun ad h=>setRow_other _ _ _ _ (by have:=n8.1 ad h;have:=HG.out;omega)) (fun ad h=>setRow_other _ _ _ _ (by have:=n8.2 ad h;have:=HG.out;omega)),n8.mono (by have:=HG.out;omega),zh (HBr.out.trans (b8.mono HBr.out.size)) (by have:=HG.out;omega),by rw [<- HAc.out];exact c8⟩
   clear S8 n8 b8 c8 X8 HC7;go_wp2_with fail;refine bodyPost_ret (resP1 rfl rfl HX8.out) rfl ?_;exact ⟨p,rfl,HE.out⟩
end
section
attribute [local go_sem ↓] zr zq zD zC zL zK xd ja
attribute [local go_sem] zi zk zl zp zv qQ xL qB zE
theorem yJ (f:Fc) (w:World) (hF:FcOk w f) (hFo:FormF f):Calls Tryz.prog 70 #[FaV (mkF f)] w fun e w'=>GivesP w w' e (HeardOf f):=by
 have HFo:=hide hFo;clear hFo;have b1:=ze w (.cells (FaC (mkF f)) 29);have X1:=zY w (mkF f);obtain ⟨w1,hw1⟩:∃ w1,w.alloc (.cells (FaC (mkF f)) 29)=w1:=⟨_,rfl⟩
 have hs1:w1.heap.size=w.heap.size+1:=by rw [<- hw1];simp
 rw [hw1] at b1 X1;have x2:PBox (w1.alloc (.cells (PC pv0) 26)) w1.heap.size pv0:=zm w1 pv0;have b2:=ze w1 (.cells (PC pv0) 26);obtain ⟨w2,hw2⟩:∃ w2,w1.alloc (.cells (PC pv0) 26)=w2:=⟨_,rfl⟩;rw [hw2] at x2 b2;rw [hs1] at x2;obtain ⟨G,hG0⟩:∃ G,w.heap.size=G:=⟨_,rfl⟩;rw [hG0] at X1 x2 hs1;have HX:=hide (X1.below b2);have HZ:=hide x2;have HBK:=hide (b1.trans (b2.mono b1.size));have HF:=hide (hF.below HBK.out);have HGs:Hid (w.heap.size=G):=hG0;clear hF b1 b2 X1 x2;have HSt:Hid (∀ W,FaBox W G (mkF f) -> W.cell? ⟨G,0,none⟩=some (.slice f.ao f.an f.ac)/\(ldP (.pointer (some ⟨G,1,none⟩))).run Tryz.prog W = .ok (PV f.p) W):=fun W h=>⟨h.cs.1,zj h.past⟩;go_enter Tryz.func70,Tryz.ntmps70;go_upto_region 1 with fail;clear hw1 hw2 hs1 hG0;refine wp_region_held_drew (S:=fun W=>W.cell? ⟨G,0,none⟩=some (.slice f.ao f.an f.ac)/\(ldP (.pointer (some ⟨G,1,none⟩))).run Tryz.prog W = .ok (PV f.p) W) (by kernel_rfl) (HSt.out _ (HX.out.below (zf w2))) (fun hHeld=>?_)
 refine wU 0 ?_;refine wU 1 ?_;refine wU 3 ?_;refine wU 4 ?_;refine wpAnyH_ready (rs:=[2]) (by kernel_rfl) (by simp) (.cons rfl (fun K hK=>?_) .nil);go_simp;go_wp2_with fail;refine (kN f.ao f.an f.ac f.es _ (HF.out.es.below (zf w2))).mono ?_;rintro x w4 ⟨d,rfl,Sd,-,b4,Cd⟩;have HB4:=hide ((zf w2).trans (b4.mono (zf w2).size));have HD:=hide Sd;have HCd:=hide Cd;clear Sd Cd b4;refine hK.out _ _ (HSt.out _ (HX.out.below HB4.out)) (fun hHeld=>?_);clear hK K;refine wpAnyH_ready (rs:=[5]) (by kernel_rfl) (by simp) (.cons rfl (fun K hK=>?_) .nil);have hPR:=prow2 w4 d f.p HD.out (HF.out.p.below HB4.out);have b7:=ze w4 (.cells #[.slice d.vo d.vn d.vc,.slice d.co d.cn d.cc,.slice f.p.vo f.p.vn f.p.vc,.slice f.p.co f.p.cn f.p.cc] 26);obtain ⟨w7,hw7⟩:∃ w7,w4.alloc (.cells #[.slice d.vo d.vn d.vc,.slice d.co d.cn d.cc,.slice f.p.vo f.p.vn f.p.vc,.slice f.p.co f.p.cn f.p.cc] 26)=w7:=⟨_,rfl⟩
 rw [hw7] at hPR b7;have HPR:=hide hPR;have HB7:=wTr HB4 b7;clear hPR b7;go_simp;refine hK.out _ _ (HSt.out _ (HX.out.below HB7.out)) (fun hHeld=>?_);clear hK K;clear hw7;refine wpAnyH_ready (rs:=[6]) (by kernel_rfl) (by simp) (.cons rfl (fun K hK=>?_) .nil);go_simp;go_wp2_with fail;refine (zbW (some ⟨w4.heap.size,0,none⟩) 2 2 [d,f.p] _ HPR.out (zcm (zP.1 HCd.out.canon) HFo.out.2.1) (by decide)).mono ?_;rintro x w8 ⟨q,rfl,S8,n8,b8,C8⟩;have HB8:=wTr HB7 b8
 have hz:G+1+1 <= w7.heap.size:=by have:=HZ.out.lt;have:=HB7.out.size;omega
 obtain ⟨s1,e1,e2,e3,e4⟩:=qt (w:=w) (HZ.out.below HB8.out) S8 (n8.mono hz) (HBK.out.trans (HB8.out.mono HBK.out.size)) (by rw [HGs.out];omega);have HE1:=hide e1;have HXe:Hid (FaBox (w8.setRow (G+1) (PC q)) G (mkF f)):=(setRow_other _ _ _ _ (by omega)).trans (HX.out.below HB8.out)
 have HE:Hid (GivesP w (w8.setRow (G+1) (PC q)) (.returned (PV q)) (HeardOf f)):=⟨q,rfl,e2,e3,e4,zP.1 C8.canon,fun r hr n=>by
  rw [zO C8 r hr n]
  show mem (runsAt d.P r++(runsAt f.p.P r++[])) n↔_
  rw [List.append_nil,mem_append,zO HCd.out r hr n]⟩
 clear S8 n8 b8 C8 e1 e2 e3 e4 hz;refine hK.out _ _ (HSt.out _ (HX.out.below HB8.out)) (fun hHeld=>?_);clear hK K;refine wpAnyH_ready (rs:=[7]) (by kernel_rfl) (by simp) (.cons rfl (fun K hK=>?_) .nil);go_simp;refine hK.out _ _ (HSt.out _ HXe.out) (fun hHeld=>?_);clear hK K;refine wpAnyH_done (by kernel_rfl) ?_ _;clear hHeld;go_wp2_with fail;refine bodyPost_ret (resP1 rfl rfl HE1.out) rfl ?_;exact HE.out
end
section
attribute [local go_sem ↓] zr zq zD zC qh qg K.zy K.zx
attribute [local go_sem] zi zk zl zp zv K.zu K.zH
theorem boxFE (w:World) (f:Fc) (e:K.En):∃ wk,(w.alloc (.cells (FaC (mkF f)) 29)).alloc (.cells (K.EC e) 50)=wk/\Hid (FaBox wk w.heap.size (mkF f))/\Hid (K.EnAt wk ⟨w.heap.size+1,0,none⟩ e)/\Hid (Below w.heap.size w wk):=by
 have b1:=ze w (.cells (FaC (mkF f)) 29);have b2:=ze (w.alloc (.cells (FaC (mkF f)) 29)) (.cells (K.EC e) 50);have X2:=K.qe (w.alloc (.cells (FaC (mkF f)) 29)) 50 e;rw [World.size_alloc] at X2;exact ⟨_,rfl,(zY w (mkF f)).below b2,X2.at,b1.trans (b2.mono b1.size)⟩
theorem ye (f:Fc) (e:K.En) (w:World) (hF:FcOk w f):Calls Tryz.prog 118 #[FaV (mkF f),K.EV e] w fun x w'=>x = .returned (.bool (lvB f.p.P f.rs e))/\Below w.heap.size w w':=by
 obtain ⟨wk,hwk,HX,HY,HBK⟩:=boxFE w f e;obtain ⟨G,hG0⟩:∃ G,w.heap.size=G:=⟨_,rfl⟩;rw [hG0] at HX HY;have HF:=hide (hF.below HBK.out);clear hF;have l0:=zj HX.out.past;have l1:(ldD (.pointer (some ⟨G+1,0,none⟩))).run Tryz.prog wk = .ok (RV (dotOf e)) wk:=qm (r:=dotOf e) ⟨HY.out.c0,HY.out.c1⟩;go_enter Tryz.func118,Tryz.ntmps118;go_wp2_with fail;clear hwk hG0 l0 l1;refine (vH f.p (dotOf e) _ HF.out.p).mono ?_;rintro x w3 ⟨y,rfl,hy,b3⟩
 obtain rfl:y=inB f.p.P e:=by rw [Bool.eq_iff_iff,qs];exact hy.out
 have HB3:=hide b3;clear hy b3
 cases hi:inB f.p.P e with
 | true =>
  have HE:Hid (false=lvB f.p.P f.rs e):=by show _=_;unfold lvB;rw [hi];rfl
  have HE2:=wTr HBK HB3.out;clear hi;go_wp2_with fail;go_ret;exact ⟨by rw [<- HE.out];rfl,HE2.out⟩
 | false =>
  have HI:=hide hi;have c3:=(HX.out.below HB3.out).cs.2;have l2:(K.ld28 (.pointer (some ⟨G+1,0,none⟩))).run Tryz.prog w3 = .ok (K.EV e) w3:=K.zN (HY.out.on HB3.out);clear hi;go_wp2_with fail;clear c3 l2;refine (zbZ f.ro f.rn f.rc f.rs e _ (HF.out.below HB3.out).rs).mono ?_;rintro x w4 ⟨rfl,b4⟩;have HE2:=hide (HBK.out.trans ((HB3.out.trans (b4.mono HB3.out.size)).mono HBK.out.size));obtain ⟨m,hm⟩:∃ m,f.rs.countP (fun r=>covB r e)=m:=⟨_,rfl⟩
  have HE:Hid (decide ((m:Int)=0)=lvB f.p.P f.rs e):=by
   show _=_
   unfold lvB;rw [HI.out,Bool.not_false,Bool.true_and,Bool.eq_iff_iff,zgI,hm];simp
  rw [hm];clear b4 hm;go_wp2_with fail;go_ret;exact ⟨by rw [<- HE.out];rfl,HE2.out⟩
end
section
attribute [local go_sem ↓] zr zq zD zC qh qg K.zy K.zx
attribute [local go_sem] zi zk zl zp zv zF zQ zW qp K.zJ K.zu K.zH K.xz
theorem bV (f:Fc) (w:World) (hF:FcOk w f):Calls Tryz.prog 72 #[FaV (mkF f)] w fun x w'=>LvS w w' x (f.es.filter (lvB f.p.P f.rs)):=by
 have b1:=ze w (.cells (FaC (mkF f)) 29);have X1:=zY w (mkF f);obtain ⟨wk,hwk⟩:∃ w1,w.alloc (.cells (FaC (mkF f)) 29)=w1:=⟨_,rfl⟩;rw [hwk] at b1 X1;obtain ⟨G,hG0⟩:∃ G,w.heap.size=G:=⟨_,rfl⟩;rw [hG0] at X1;have HX:=hide X1;have HBK:=hide b1;have HF:=hide (hF.below b1);clear hF b1 X1;go_enter Tryz.func72,Tryz.ntmps72;obtain ⟨n,hn⟩:∃ n,f.an=n:=⟨_,rfl⟩;obtain ⟨ao,hao⟩:∃ a,f.ao=a:=⟨_,rfl⟩;obtain ⟨ac,hac⟩:∃ a,f.ac=a:=⟨_,rfl⟩
 have HS:Hid (K.ESrc wk ao n ac f.es):=by rw [<- hn,<- hao,<- hac];exact HF.out.es
 have HCs:Hid (∀ W,Below wk.heap.size wk W -> W.cell? ⟨G,0,none⟩=some (.slice ao n ac)):=fun W h=>by rw [<- hn,<- hao,<- hac];exact (HX.out.below h).cs.1
 have HLn:Hid (f.es.length=n):=HS.out.1;have hnb:=HS.out.2.2.2.2;go_wp2_with fail;clear hn hao hac hwk hG0;go_loopw [3,4] (fun v i wr=>∃ (k:Nat) (ap:Option Addr) (c2:Nat) (acc:List K.En),k <= n/\v = .slice ap acc.length c2/\i = .int .i64 (k:Int)/\Hid (acc=(f.es.take k).filter (lvB f.p.P f.rs)/\K.OwnE wk.heap.size wk.heap.size wk wr ap c2 acc)) (fun _ i _=>n - (intOf i).toNat)
 case atStart=>exact ⟨0,none,0,[],Nat.zero_le _,rfl,rfl,rfl,K.OwnE.nil (Below.refl _ _) (Nat.le_refl _) (Nat.le_refl _)⟩
 case round =>
  obtain ⟨k,ap,c2,acc,hk,rfl,rfl,HO⟩:=hrel
  rename World=>wr
  have c0:=HCs.out _ HO.out.2.below;by_cases hlt:k < n
  ·have hlti:(k:Int) < (n:Int):=by omega
   have hal:acc.length <= k:=by
    rw [HO.out.1];refine Nat.le_trans (List.length_filter_le _ _) ?_;rw [List.length_take];omega
   have halb:acc.length < 3518437208883:=by omega
   have HT:=hide (takeE3 f.es k (by rw [HLn.out];exact hlt));obtain ⟨ad,hao,A0⟩:=(HS.out.below HO.out.2.below).at k hlt;subst hao;obtain ⟨e,He⟩:∃ e,Hid (f.es.getD k K.en0=e):=⟨_,rfl⟩;rw [He.out] at HT;have Hlt:=hide hlt
   have HEn:Hid (∀ W,Below wk.heap.size wk W -> K.EnAt W (ad.add (k * 4)) e):=fun W hW=>by
    obtain ⟨ad',he',h⟩:=(HS.out.below hW).at k Hlt.out;obtain rfl:=Option.some.inj he';rw [He.out] at h;exact h
   have HSt:Hid (∀ W,Below wk.heap.size wk W -> (ldFa (.pointer (some ⟨G,0,none⟩))).run Tryz.prog W = .ok (FaV (mkF f)) W/\W.cell? ⟨G,0,none⟩=some (.slice (some ad) n ac)/\(K.ld28 (.pointer (some (ad.add (k * 4))))).run Tryz.prog W = .ok (K.EV e) W):=fun W hW =>
    ⟨zT (HX.out.below hW),HCs.out _ hW,K.zN (HEn.out W hW)⟩
   have HO1:=hide (HO.out.2.later (zf wr));have Hacc:=hide HO.out.1;clear A0 hlt hk HO;go_upto_region 5 with fail;refine wp_region_held_drew (S:=fun W=>(ldFa (.pointer (some ⟨G,0,none⟩))).run Tryz.prog W = .ok (FaV (mkF f)) W/\W.cell? ⟨G,0,none⟩=some (.slice (some ad) n ac)/\(K.ld28 (.pointer (some (ad.add (k * 4))))).run Tryz.prog W = .ok (K.EV e) W) (by kernel_rfl) (HSt.out _ HO1.out.below) (fun hHeld=>?_);refine wU 0 ?_;refine wU 1 ?_;refine wU 2 ?_;refine wU 3 ?_;refine wU 4 ?_;refine wU 5 ?_;refine wpAnyH_ready (rs:=[6]) (by kernel_rfl) (by simp) (.cons rfl (fun K hK=>?_) .nil);go_simp;go_wp2_with fail;refine (ye f e _ (HF.out.below HO1.out.below)).mono ?_;rintro x w5 ⟨rfl,b5⟩;have HO5:=hide (HO1.out.later b5);clear b5;refine hK.out _ _ (HSt.out _ HO5.out.below) (fun hHeld=>?_);clear hK K;refine wpAnyH_done (by kernel_rfl) ?_ _
   clear hHeld;clear c0;obtain ⟨b,hb⟩:∃ b,lvB f.p.P f.rs e=b:=⟨_,rfl⟩;rw [hb]
   have Hf:Hid ((f.es.take (k+1)).filter (lvB f.p.P f.rs)=acc++(if b then [e] else [])):=by
    show _=_
    rw [HT.out,List.filter_append,<- Hacc.out,List.filter_cons,hb]
    cases b <;> rfl
   clear hb
   cases b with
   | true =>
    have c0:=HCs.out _ HO5.out.below;have l6:=K.zN (HEn.out _ HO5.out.below);have HO6:=HO5;clear HO5;go_wp2_with (at_builtin;refine HO6.out.append e _ rfl halb rfl (.tmp 19) (.tmp 25) rfl acc.length rfl rfl rfl ?_;intro g6 c6 w7 O7 hk7;have HO7:=hide O7;clear O7 hk7);clear l6 c0;go_roundw
    case rel=>exact ⟨k+1,some ⟨g6,0,none⟩,c6,acc++[e],Hlt.out,by simp,by simp,Hf.out.symm,HO7.out⟩
    case measure=>simp [intOf];have:=Hlt.out;omega
   | false =>
    go_wp2_with fail;go_roundw
    case rel=>exact ⟨k+1,ap,c2,acc,Hlt.out,rfl,by simp,by rw [Hf.out];simp,HO5.out⟩
    case measure=>simp [intOf];have:=Hlt.out;omega
  ·have hlti:¬ (k:Int) < (n:Int):=by omega
   have HE:Hid (LvS w wr (.returned (.slice ap acc.length c2)) (f.es.filter (lvB f.p.P f.rs))):=by
    obtain ⟨h1,h2⟩:=HO.out
    have h3:acc=f.es.filter (lvB f.p.P f.rs):=by rw [h1,List.take_of_length_le (by rw [HLn.out];omega)]
    obtain ⟨S9,-⟩:=h2.src (fun e he=>HS.out.2.2.2.1 e (by rw [h3] at he;exact (List.mem_filter.1 he).1)) (by
     have h4:acc.length <= n:=by rw [h3];exact Nat.le_trans (List.length_filter_le _ _) (Nat.le_of_eq HLn.out)
     omega)
    rw [<- h3];exact ⟨ap,acc.length,c2,rfl,S9,HBK.out.trans (h2.below.mono HBK.out.size)⟩
   clear HO;go_wp2_with fail;go_ret;exact HE.out
end
def StB (N:Nat) (w w':World) (x:Ending) (f:Fc):Prop:=∃ s:Fc,x = .returned (FaV (mkF s))/\SwB N w' s/\Below w.heap.size w w'/\StD f s
attribute [local go_sem ↓] zr zq zD zC zL zK xd
attribute [local go_sem] zi zk zl zp zv xL qB zE
theorem jl (N:Nat) (hN:N <= 4) (f:Fc) (w:World) (hS:SwB N w f) (hFo:FormF f):Calls Tryz.prog 35 #[FaV (mkF f)] w fun e w'=>StB N w w' e f:=by
 have HFo:=hide hFo;clear hFo;have b1:=ze w (.cells (FaC (mkF f)) 29);have X1:=zY w (mkF f);obtain ⟨w1,hw1⟩:∃ w1,w.alloc (.cells (FaC (mkF f)) 29)=w1:=⟨_,rfl⟩
 have hs1:w1.heap.size=w.heap.size+1:=by rw [<- hw1];simp
 rw [hw1] at b1 X1;have x2:SwBox (w1.alloc (.cells (FaC (mkF fz0)) 31)) w1.heap.size (mkF fz0):=qk w1 (mkF fz0);have b2:=ze w1 (.cells (FaC (mkF fz0)) 31);obtain ⟨w2,hw2⟩:∃ w2,w1.alloc (.cells (FaC (mkF fz0)) 31)=w2:=⟨_,rfl⟩;rw [hw2] at x2 b2;rw [hs1] at x2;obtain ⟨G,hG0⟩:∃ G,w.heap.size=G:=⟨_,rfl⟩;rw [hG0] at X1 x2 hs1;have HX:=hide (X1.below b2);have HZ:=hide x2;have HBK:=hide (b1.trans (b2.mono b1.size));have HS:=hide (hS.below HBK.out);have HGs:Hid (w.heap.size=G):=hG0;clear hS b1 b2 X1 x2;have lf:=zT HX.out;go_enter Tryz.func35,Tryz.ntmps35;go_wp2_with fail;clear hw1 hw2 hs1 hG0 lf;refine (yJ f _ HS.out.ok HFo.out).mono ?_;rintro x wq ⟨p,rfl,Sp,-,bq,He⟩;obtain ⟨g3,hg3⟩:∃ g,wq.heap.size=g:=⟨_,rfl⟩;obtain ⟨w3,hst,X3,B3,-⟩:=madeP wq p g3 hg3;have b23:=bq.trans (B3.mono bq.size)
 have HB3:=hide b23;have HP3:=hide X3;have HSp:=hide (Sp.below B3);have HHe:=hide He
 have HG3:Hid (G+1 < g3):=by
  have h1:=HZ.out.lt;have h2:=bq.size
  show G+1 < g3
  omega
 have c3:=(HX.out.below HB3.out).cs.2
 have lp:=zj HP3.out.at
 clear Sp bq He X3 B3 b23;go_wp2_with fail;clear hst hg3 c3 lp;refine (za0 f.ro f.rn f.rc f.rs p _ ((HS.out.ok.row HS.out.row).below HB3.out) HSp.out (by have:=HS.out.rn;omega)).mono ?_;rintro e w4 (⟨-,-,⟨fo,fn,fc⟩,F,rfl,GF,-,-,b4,WF⟩ | ⟨hno,-,-⟩);rotate_left
 ·exact absurd ⟨HFo.out.2.2,HHe.out.1⟩ hno
 rw [show HsV ⟨fo,fn,fc⟩=Value.slice fo fn fc from rfl];have HB4:=wTr HB3 b4;have HX4:=hide (HX.out.below HB4.out);have HZ4:=hide (HZ.out.below HB4.out);have HP4:=hide (HP3.out.below b4);have HSp4:=hide (HSp.out.below b4);have HS4:=hide (HS.out.below HB4.out);have HBK4:=wTr HBK HB4.out;have HSF:=hide GF;have HWF:=hide WF;have HSt:Hid (∀ W,FaBox W G (mkF f) -> PBox W g3 p -> (ldFa (.pointer (some ⟨G,0,none⟩))).run Tryz.prog W = .ok (FaV (mkF f)) W/\(ldP (.pointer (some ⟨g3,0,none⟩))).run Tryz.prog W = .ok (PV p) W):=fun W h k=>⟨zT h,zj k.at⟩;clear GF b4 WF;go_upto_region 3 with fail;refine wp_region_held_drew (S:=fun W=>(ldFa (.pointer (some ⟨G,0,none⟩))).run Tryz.prog W = .ok (FaV (mkF f)) W/\(ldP (.pointer (some ⟨g3,0,none⟩))).run Tryz.prog W = .ok (PV p) W) (by kernel_rfl) (HSt.out _ (HX4.out.below (zf w4)) (HP4.out.below (zf w4))) (fun hHeld=>?_)
 refine wU 0 ?_;refine wU 2 ?_;refine wU 3 ?_;refine wpAnyH_ready (rs:=[1]) (by kernel_rfl) (by simp) (.cons rfl (fun K hK=>?_) .nil);go_simp;go_wp2_with fail;refine (bV f _ (HS4.out.ok.below (zf w4))).mono ?_;rintro x w5 ⟨la,ln,lc,rfl,SL,b5⟩;have HB5:=hide ((zf w4).trans (b5.mono (zf w4).size));have A6:=HZ4.out.below HB5.out;have st:=xj (m':=mkF ⟨la,ln,lc,[],p,fo,fn,fc,[]⟩) A6;have HE1:Hid (SwBox (w5.setRow (G+1) (FaC (mkF ⟨la,ln,lc,[],p,fo,fn,fc,[]⟩))) (G+1) (mkF ⟨la,ln,lc,f.es.filter (lvB f.p.P f.rs),p,fo,fn,fc,F⟩)):=A6.setRow;have HXe:Hid (FaBox (w5.setRow (G+1) (FaC (mkF ⟨la,ln,lc,[],p,fo,fn,fc,[]⟩))) G (mkF f)):=(setRow_other _ _ _ _ (by omega)).trans (HX4.out.below HB5.out);have HPe:Hid (PBox (w5.setRow (G+1) (FaC (mkF ⟨la,ln,lc,[],p,fo,fn,fc,[]⟩))) g3 p):=(setRow_other _ _ _ _ (by have:=HG3.out;omega)).trans (HP4.out.below HB5.out)
 have hok:FcOk (w5.setRow (G+1) (FaC (mkF ⟨la,ln,lc,[],p,fo,fn,fc,[]⟩))) ⟨la,ln,lc,f.es.filter (lvB f.p.P f.rs),p,fo,fn,fc,F⟩:=FcOk.offW (f:=⟨la,ln,lc,f.es.filter (lvB f.p.P f.rs),p,fo,fn,fc,F⟩) ⟨SL,HSp4.out.below HB5.out,HSF.out.1.below HB5.out⟩ A6 _;have hsd:StD f ⟨la,ln,lc,f.es.filter (lvB f.p.P f.rs),p,fo,fn,fc,F⟩:=⟨rfl,HHe.out,HWF.out⟩
 have HE:Hid (StB N w (w5.setRow (G+1) (FaC (mkF ⟨la,ln,lc,[],p,fo,fn,fc,[]⟩))) (.returned (FaV (mkF ⟨la,ln,lc,f.es.filter (lvB f.p.P f.rs),p,fo,fn,fc,F⟩))) f):=
  ⟨_,rfl,st_b HS4.out hok ⟨HSF.out.room,HSF.out.nil⟩ hsd,zh (HBK4.out.trans (HB5.out.mono HBK4.out.size)) (by rw [HGs.out];omega),hsd⟩
 clear SL b5 A6 hok hsd;refine hK.out _ _ (HSt.out _ (HX4.out.below HB5.out) (HP4.out.below HB5.out)) (fun hHeld=>?_);clear hK K;refine wU 4 ?_;refine wpAnyH_ready (rs:=[5]) (by kernel_rfl) (by simp) (.cons rfl (fun K hK=>?_) .nil);go_simp;refine hK.out _ _ (HSt.out _ HXe.out HPe.out) (fun hHeld=>?_);clear hK K;clear st;refine wpAnyH_done (by kernel_rfl) ?_ _;clear hHeld;go_wp2_with fail;refine bodyPost_ret (res1Sw rfl rfl HE1.out) rfl ?_;exact HE.out
end
section
open Go.RowKit
def XpI (s h:Fc):Prop:=h.es=s.es/\InForm h.p.P/\(∀ e,inB h.p.P e=true↔inB s.p.P e=true/\¬ ∃ y∈s.es,dotOf y=dotOf e)/\plR h.rs=plR s.rs
theorem zhq {s h:Fc} (x:XpE s h):XpI s h:=⟨x.1.1,(by obtain ⟨-,p,-,hm⟩:=x.1;exact hm.form),zhR x.1,x.2.1⟩
theorem zd4 {s t h k:Fc} (x:XpI s h) (y:XpI t k) (e:EqS s t):EqS h k:=by
 refine ⟨x.1.trans (e.1.trans y.1.symm),zeA x.2.1 y.2.1 fun a=>?_,x.2.2.2.trans (e.2.2.trans y.2.2.2.symm)⟩;rw [x.2.2.1,y.2.2.1,e.1,e.2.1]
def PrF (f h:Fc) (er:Int):Prop:=(¬ FormF f/\er=1/\h=fz0)∨(FormF f/\er=0/\∃ s,StD f s/\XpI s h)
def ExF (s h:Fc) (er:Int):Prop:=(¬ FormS s/\er=1/\h=fz0)∨(FormS s/\er=0/\XpI s h)
theorem wy (s:Fc):EqS s s:=⟨rfl,rfl,rfl⟩
theorem zh2 {f h k:Fc} {a b:Int} (x:PrF f h a) (y:PrF f k b):a=b/\EqS h k:=by
 rcases x with ⟨h1,rfl,rfl⟩ | ⟨h1,rfl,s,h2,h3⟩ <;> rcases y with ⟨k1,rfl,rfl⟩ | ⟨k1,rfl,t,k2,k3⟩
 ·exact ⟨rfl,wy _⟩
 ·exact absurd k1 h1
 ·exact absurd h1 k1
 ·exact ⟨rfl,zd4 h3 k3 (kl h2 k2)⟩
theorem zid {s h k:Fc} {a b:Int} (x:ExF s h a) (y:ExF s k b):a=b/\EqS h k:=by
 rcases x with ⟨h1,rfl,rfl⟩ | ⟨h1,rfl,h2⟩ <;> rcases y with ⟨k1,rfl,rfl⟩ | ⟨k1,rfl,k2⟩
 ·exact ⟨rfl,wy _⟩
 ·exact absurd k1 h1
 ·exact absurd h1 k1
 ·exact ⟨rfl,zd4 h2 k2 (wy s)⟩
theorem zig {f s t:Fc} {a b:Int} (x:CoR f s a) (y:CoR f t b):a=b/\EqS s t:=by
 rcases x with ⟨h1,rfl,rfl⟩ | ⟨h1,rfl,h2⟩ <;> rcases y with ⟨k1,rfl,rfl⟩ | ⟨k1,rfl,k2⟩
 ·exact ⟨rfl,wy _⟩
 ·exact absurd k1 h1
 ·exact absurd h1 k1
 ·exact ⟨rfl,kl h2 k2⟩
def SmD (f t:Fc):Prop:=FormF f/\∃ s,StD f s/\EqS s t
theorem bD {f s t:Fc} (ff:FormF f) (h:StD f s):SmD f t↔EqS s t:=by
 constructor
 ·rintro ⟨-,q,hq,e⟩;have:=kl h hq;exact ⟨this.1.trans e.1,this.2.1.trans e.2.1,this.2.2.trans e.2.2⟩
 ·exact fun e=>⟨ff,s,h,e⟩
attribute [local go_sem ↓] zr zq zD zC zL zK
attribute [local go_sem] zi zk zl zp zv
theorem sameSwot4F (a b:Fc) (w:World) (hF:FcOk w a) (hG:FcOk w b):Calls Tryz.prog 9 #[FaV (mkF a),FaV (mkF b)] w fun e w'=>GivB w w' e (EqS a b):=by
 obtain ⟨wk,hwk,HX,HY,HBK⟩:=box2S w a b;obtain ⟨G,hG0⟩:∃ G,w.heap.size=G:=⟨_,rfl⟩;rw [hG0] at HX HY;have HF:=hide (hF.below HBK.out);have HG:=hide (hG.below HBK.out);clear hF hG;have c0:=HX.out.cs.1;have d0:=HY.out.cs.1;go_enter Tryz.func9,Tryz.ntmps9;go_wp2_with fail;clear hwk hG0 c0 d0;refine (xW a.ao b.ao a.an b.an a.ac b.ac a.es b.es _ HF.out.es HG.out.es).mono ?_;rintro e w3 ⟨x,rfl,hx,b3⟩;have HB3:=hide b3;clear b3
 cases x with
 | false =>
  have HN:Hid (¬ EqS a b):=fun h=>(by have:=hx.2 h.1;cases this);have HE:=wTr HBK HB3.out;clear hx;go_wp2_with fail;go_ret;exact ⟨_,rfl,BIf.no HN.out,HE.out⟩
 | true =>
 have H1:Hid (a.es=b.es):=hx.1 rfl;clear hx;have lp:=zj (HX.out.below HB3.out).past;have lq:=zj (HY.out.below HB3.out).past;go_wp2_with fail;clear lp lq;refine (xe a.p b.p _ (HF.out.below HB3.out).p (HG.out.below HB3.out).p).mono ?_;rintro e w4 ⟨x,rfl,hx,b4⟩;have HB4:=wTr HB3 b4;clear b4
 cases x with
 | false =>
  have HN:Hid (¬ EqS a b):=fun h=>(by have:=hx.2 h.2.1;cases this);have HE:=wTr HBK HB4.out;clear hx;go_wp2_with fail;go_ret;exact ⟨_,rfl,BIf.no HN.out,HE.out⟩
 | true =>
 have H2:Hid (a.p.P=b.p.P):=hx.1 rfl;clear hx;have c3:=(HX.out.below HB4.out).cs.2;have d3:=(HY.out.below HB4.out).cs.2;go_wp2_with fail;clear c3 d3;refine (xV a.ro b.ro a.rn b.rn a.rc b.rc a.rs b.rs _ (HF.out.below HB4.out).rs (HG.out.below HB4.out).rs).mono ?_;rintro e w5 ⟨x,rfl,hx,b5⟩;have HB5:=hide (HBK.out.trans ((HB4.out.trans (b5.mono HB4.out.size)).mono HBK.out.size));have HE:Hid (BIf x (EqS a b)):=⟨fun h=>⟨H1.out,H2.out,hx.1 h⟩,fun h=>hx.2 h.2.2⟩;clear hx b5;go_wp2_with fail;go_ret;exact ⟨_,rfl,HE.out,HB5.out⟩
end
end Go.Proofs.YtjffpimfngdggaaGreat
