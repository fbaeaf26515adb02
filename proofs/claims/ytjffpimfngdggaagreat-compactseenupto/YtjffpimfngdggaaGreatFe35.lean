/- BAq SXc SXl SXw ORo EFa LPl EHo LMe -/
import Derived.Test.YtjffpimfngdggaaGreatTk
import Derived.Test.YtjffpimfngdggaaGreatFe34
import Derived.Test.YtjffpimfngdggaaGreatFe28
import Derived.Deep.CutRange
import Derived.Test.YtjffpimfngdggaaGreatFe31
import Derived.Test.YtjffpimfngdggaaGreatFe16
import Derived.Test.YtjffpimfngdggaaGreatFe21
import Derived.Test.YtjffpimfngdggaaGreatFe09
import Derived.Test.YtjffpimfngdggaaGreatFe17
import Derived.Test.YtjffpimfngdggaaGreatFe10
import Derived.Test.YtjffpimfngdggaaGreatFe22
import Derived.Sort.KeysCollected
import Derived.Maps.Ext
import Derived.Test.YtjffpimfngdggaaGreatFe15
set_option maxRecDepth 100000
set_option maxHeartbeats 6400000
namespace Go.Proofs.YtjffpimfngdggaaGreat
section
open Go.RowKit Go.Maps Go.Sort
attribute [local go_sem ↓] zq zp zZ zY
attribute [local go_sem] zJ zQ qe
theorem za9 {α : Type} [DecidableEq α]:∀ (l m:List α),l.Nodup -> (∀ x∈l,x∈m) -> l.length <= m.length
 | [],_,_,_=>Nat.zero_le _
 | x :: l,m,hn,hs=>by
  have h1:=List.nodup_cons.1 hn;have hx:=hs x List.mem_cons_self;have h2:=za9 l (m.erase x) h1.2 (fun y hy=>(List.mem_erase_of_ne (fun e=>h1.1 (by rw [<- e];exact hy))).2 (hs y (List.mem_cons_of_mem _ hy)));rw [List.length_erase_of_mem hx] at h2;have:=List.length_pos_of_mem hx;simp only [List.length_cons];omega
theorem zfi:∀ a:List UInt8,Lib.compareBytes a a=0
 | []=>by simp [Lib.compareBytes]
 | a :: x=>by
  have h0:¬ a < a:=UInt8.lt_irrefl a;simpa [Lib.compareBytes,h0] using zfi x
theorem zgC {R F:List Rc} (h:iN R F):F.length <= R.length:=by
 have h1:=za9 (F.map (fun x=>x.s.data.toList)) (R.map (fun x=>x.s.data.toList)) (by
  refine List.pairwise_map.2 (h.1.imp fun {a b} dS e=>?_)
  have e2:a.s=b.s:=by cases ha:a.s;cases hb:b.s;rw [ha,hb] at e;simpa using e
  rw [e2] at dS
  exact absurd dS (by unfold eX;rw [zfi];decide)) (fun x hx=>by
  obtain ⟨f,hf,rfl⟩:=List.mem_map.1 hx;obtain ⟨r,hr,e⟩:=(h.2.1 f hf).1
  exact List.mem_map.2 ⟨r,hr,by rw [e]⟩)
 simpa using h1
theorem zca {w w':World} {L:List K.En} {n:Nat} {ao:Option Addr} {c:Nat} (hn:L.length=n) (hs:∀ e∈L,e.sku.size <= maxLen) (hb:n <= 3518437208883) (O:K.dU w.heap.size w.heap.size w w' ao c L):K.aD w' ao n c L/\∀ ad,ao=some ad -> w.heap.size <= ad.block:=by
 have h:=O.src hs (by omega);rw [hn] at h;exact h
theorem yx (ao bo:Option Addr) (n cap m cap':Nat) (L:List K.En) (R:List Rc) (w:World) (hS:K.aD w ao n cap L) (hR:RcS w bo m cap' R) (hwt:∀ s,wt (ofS R s) <= 8796093022207) (mw:m * (n+1) <= 8796093022207) :
  Calls Tryz.prog 54 #[.slice ao n cap,.slice bo m cap'] w fun x w'=>ApA w w' x L R m:=by
 have HS:=hide hS;have HR:=hide hR;have HW:=hide hwt;have uy:=hide mw;have HL:Hid (L.length=n/\n <= 3518437208883):=⟨hS.1,hS.2.2.2.2⟩;have pF:=HL.out.2;have HM:Hid (R.length=m):=hR.len;clear hS hR hwt mw;go_enter Tryz.func54,Tryz.ntmps54;go_wp2_with fail;refine (K.qv ao n cap L _ HS.out).mono ?_;rintro x w1 ⟨rfl,b1⟩;have aN:=hide b1;have dm:=hide (HS.out.below b1);have pw:=hide (HR.out.below b1);clear b1 HS HR;rcases K.yu L with hc | hc;rotate_left
 ·have HE:Hid (ApA w w1 (.returned (.tuple #[.slice none 0 0,.int .i64 1])) L R m):=.inr ⟨fun h=>(by rw [hc] at h;cases h.1),_,_,_,rfl,K.aD.none _,aN.out,fun ad h=>by cases h⟩;rw [hc];clear hc;go_wp2_with fail;go_ret2;exact HE.out
 ·rw [hc];have HC:=hide hc;clear hc;go_wp2_with fail;refine (zgD bo m cap' R _ pw.out HW.out).mono ?_;rintro x w2 (⟨hO,⟨qo,qn,qc⟩,F,rfl,S2,b2,-,hF⟩ | ⟨hO,rfl,b2⟩);rotate_left
  ·have HE:Hid (ApA w w2 (.returned (.tuple #[.slice none 0 0,.int .i64 1])) L R m):=.inr ⟨fun h=>hO h.2,_,_,_,rfl,K.aD.none _,aN.out.trans (b2.mono aN.out.size),fun ad h=>by cases h⟩;clear hO b2;go_wp2_with fail;go_ret2;exact HE.out
  ·rw [show HsV ⟨qo,qn,qc⟩=Value.slice qo qn qc from rfl];replace S2:RcS w2 qo qn qc F:=S2;have HO:=hide hO;have cg:=wTr aN b2;have dX:=hide (dm.out.below b2);have HF:=hide hF;have Bf:=hide S2;have Eg:Hid (F.length=qn):=S2.len;have NY:=S2.big
   have LN:Hid (qn <= m):=by show _ <= _;rw [<- Eg.out,<- HM.out];exact zgC hF
   clear hO b2 dm aN pw hF S2;by_cases hq0:qn=0
   ·have LA:((qn:Int) == 0)=true:=by simp [hq0]
    have uD:F=[]:=List.eq_nil_of_length_eq_zero (Eg.out.trans hq0)
    have JE:Hid (L.filter (cW R)=L):=by show _=_;exact zgz HC.out (uD ▸ HF.out)
    clear uD
    cases ao with
    | none =>
     have fh:=dX.out.2.1 rfl;obtain ⟨rfl,rfl⟩:=fh;go_wp2_with fail;refine (K.zfe _).mono ?_;rintro x w3 ⟨rfl,rfl⟩;have HE:Hid (ApA w w3 (.returned (.tuple #[.slice none 0 0,.int .i64 0])) L R m):=.inl ⟨HC.out,HO.out,none,0,0,rfl,by rw [JE.out];exact dX.out,cg.out,fun ad h=>by cases h⟩;go_wp2_with fail;go_ret2;exact HE.out
    | some ad =>
     go_wp2_with fail;refine (K.zff ad n cap L _ dX.out).mono ?_;rintro x w3 ⟨a3,c3,rfl,O3⟩;have h3:=zca HL.out.1 dX.out.2.2.2.1 HL.out.2 O3;have HE:Hid (ApA w w3 (.returned (.tuple #[.slice a3 n c3,.int .i64 0])) L R m):=.inl ⟨HC.out,HO.out,a3,n,c3,rfl,by rw [JE.out];exact h3.1,cg.out.trans (O3.below.mono cg.out.size),fun ad h=>Nat.le_trans cg.out.size (h3.2 ad h)⟩;clear O3 h3;go_wp2_with fail;go_ret2;exact HE.out
   ·have LA:((qn:Int) == 0)=false:=by simp [hq0]
    have uC:Hid (∀ e∈L,¬ e.sku.size=0):=fun e he=>zhE (xZ HC.out e he);go_wp2_with fail;refine (zdG ao n cap L _ dX.out uC.out).mono ?_;rintro x w3 ⟨kk,rfl,hM⟩;obtain ⟨K0,f,M3⟩:=hM;have K4:=hide M3;have aB:=wTr cg M3.below;have oS:=hide (dX.out.below M3.below);have rh:=hide (Bf.out.below M3.below);obtain ⟨b,Hb⟩:∃ b,Hid (w2.heap.size=b):=⟨_,rfl⟩;rw [Hb.out];clear M3 dX Bf cg;go_wp2_with fail;go_loopw [10,35] (fun v i wr=>∃ (k:Nat) (x:Hs),k <= qn/\v = .slice x.o x.n x.c/\i = .int .i64 (k:Int)/\Hid (∃ X:List Pv,io w3.heap.size w3 wr x X/\(∀ p∈X,eC x p)/\BX L (F.take k) X/\x.n=k)) (fun _ i _=>qn - (intOf i).toNat)
    case atStart=>exact ⟨0,hs0,Nat.zero_le _,rfl,rfl,⟨[],io.nil w3,fun p h=>(by cases h),BX.nil L,rfl⟩⟩
    case round =>
     obtain ⟨k,x,hk,rfl,rfl,HX⟩:=hrel
     rename World=>wr
     by_cases ak:k < qn
     ·have cL:(k:Int) < (qn:Int):=by omega
      obtain ⟨X,O,Em,Ad,Fd⟩:=HX.out;obtain ⟨ad,eO,A0⟩:=(rh.out.below O.below).at k ak;have lA:=(rh.out.below O.below).okAt k ak;have HT:=hide (yG F k (by rw [Eg.out];exact ak));obtain ⟨r,Hr⟩:∃ r,Hid (F.getD k rc0=r):=⟨_,rfl⟩;rw [Hr.out] at A0 lA HT;have gk:=lA.2;have dK:=zM A0;obtain ⟨g7,fZ⟩:∃ g7,wr.heap.size=g7:=⟨_,rfl⟩;obtain ⟨w7,a8,X7,B7,S7⟩:=fE wr (mkR r) g7 fZ;have O7:=(O.later B7).later (zg w7);have M7:=((K4.out.later O.below).later B7).later (zg w7)
      have l0:(Instr.lookup 149 (.map (some b)) (.string r.s) false).run Tryz.prog w7.drew = .ok (.slice (f r.s).o (f r.s).n (f r.s).c) w7.drew:=by
       have:=M7.look rz Tryz.underlying9 Tryz.underlying149 (nZ _) r.s gk;rwa [Hb.out] at this
      have Fe:=M7.len r.s;have ol:=kX L r.s
      have Dh:Hid (aX w7.drew (f r.s).o (f r.s).n (f r.s).c (dl L r.s)):=by
       have h:=M7.rows r.s
       have e:(HsV (f r.s)) = .slice (f r.s).o (dl L r.s).length (f r.s).c:=by show Value.slice _ _ _=_;rw [Fe]
       rw [e,Fe] at h;have:=(fd.src (B0:=w2.heap.size) ⟨h,M7.below,M7.hb.2.2,by omega⟩ (by have:=HL.out;omega)).1
       show aX _ _ _ _ _
       rw [Fe];exact this
      have aG:Hid (∀ W:World,W.heap[g7]? = w7.heap[g7]? -> W.cell? ⟨g7,0,none⟩=some (.string r.s)/\(ldP (.pointer (some ⟨g7,1,none⟩))).run Tryz.prog W = .ok (.agg #[.slice r.p.vo r.p.vn r.p.vc,.slice r.p.co r.p.cn r.p.cc]) W):=fun W h=>by
       have X:cf W g7 (mkR r):=h.trans X7;exact ⟨X.sk,zl X.past⟩
      have Kb:Hid (g7 < w7.heap.size):=by show _ < _;omega
      have cw:=hide ak;have fI:=hide O7;have CD:=hide Em;have ud:=hide Ad;have J2:Hid (x.n=k/\k <= 2199023255552):=⟨Fd,by omega⟩;have DQ:Hid (am w7.drew r.p):=((lA.1.below B7).below (zg w7))
      have JY:Hid (∀ j,(HsV x).ownBlock=some j -> j < g7):=fun j hj=>by have:=(O.own.lt j hj).2;omega
      subst eO;clear A0 X7 B7 S7 M7 O7 O Em Ad ak hk lA Fe ol Fd HX;go_upto_region 14 with fail;clear a8 dK;refine wp_region_held_drew (S:=fun W=>W.cell? ⟨g7,0,none⟩=some (.string r.s)/\(ldP (.pointer (some ⟨g7,1,none⟩))).run Tryz.prog W = .ok (.agg #[.slice r.p.vo r.p.vn r.p.vc,.slice r.p.co r.p.cn r.p.cc]) W) (by kernel_rfl) (aG.out _ rfl) (fun hHeld=>?_);refine wU 0 ?_;refine wU 1 ?_;refine wU 2 ?_;refine wU 3 ?_;refine wU 6 ?_;refine wU 7 ?_;refine wpAnyH_ready (rs:=[4]) (by kernel_rfl) (by simp) (.cons rfl (fun K hK=>?_) .nil);go_simp;refine hK.out _ _ (aG.out _ rfl) (fun hHeld=>?_);clear hK K;refine wpAnyH_ready (rs:=[5]) (by kernel_rfl) (by simp) (.cons rfl (fun K hK=>?_) .nil);go_simp;go_wp2_with fail;refine (wX (f r.s).o (f r.s).n (f r.s).c (dl L r.s) _ Dh.out).mono ?_;rintro e w8 ⟨pd,rfl,Sd,-,b8,Cd⟩;have fD:=hide (fI.out.later b8)
      have Jt:=hide (DQ.out.below b8);have z8:w8.heap[g7]? = w7.heap[g7]?:=b8.block g7 Kb.out;have Iu:=hide z8;have GO:Hid (g7 < w8.heap.size):=Nat.lt_of_lt_of_le Kb.out b8.size;have Mw:=hide Sd;have IZ:=hide Cd;refine hK.out _ _ (aG.out _ z8) (fun hHeld=>?_);clear hK K;clear b8 z8 Sd Cd fI DQ l0;refine wpAnyH_ready (rs:=[8]) (by kernel_rfl) (by simp) (.cons rfl (fun K hK=>?_) .nil);go_simp;go_wp2_with fail;refine (za4 pd r.p _ Mw.out Jt.out).mono ?_;rintro e w9 ⟨pm,rfl,Sm,Nm,b9,Cm⟩;have uU:=hide (fD.out.later b9);have z9:w9.heap[g7]? = w7.heap[g7]?:=(b9.block g7 GO.out).trans Iu.out;have Fw:=hide z9;have J5:Hid (g7 < w9.heap.size):=Nat.lt_of_lt_of_le GO.out b9.size;have Mc:=hide Sm;have IT:Hid (eC x pm):=fun j hj=>dA.new Nm (by have:=JY.out j hj;have:=GO.out;omega)
      have LJ:Hid (BX L (F.take (k+1)) (X++[pm])):=by show BX _ _ _;rw [HT.out];exact ud.out.snoc IZ.out Cm
      refine hK.out _ _ (aG.out _ z9) (fun hHeld=>?_);clear hK K;clear b9 z9 Sm Nm Cm fD Jt;obtain ⟨ga,ca,wa,CY,Oa,Fa,ka⟩:=uU.out.app CD.out pm Mc.out IT.out (by have:=J2.out;omega);have AI:Hid ((Builtin.append_ #[151,151] 151 #[.slice x.o x.n x.c,.slice (some ⟨w9.heap.size,0,none⟩) 1 1]).run Tryz.prog (w9.alloc (.cells #[.slice pm.vo pm.vn pm.vc,.slice pm.co pm.cn pm.cc] 26)) = .ok (.slice (some ⟨ga,0,none⟩) (x.n+1) ca) wa):=CY;have zA:(w9.alloc (.cells #[.slice pm.vo pm.vn pm.vc,.slice pm.co pm.cn pm.cc] 26)).heap[g7]? = w7.heap[g7]?:=(Below.heap_alloc w9 _ g7 J5.out).trans Fw.out;have za:wa.heap[g7]? = w7.heap[g7]?:=(ka g7 J5.out (fun e=>by have:=JY.out g7 e;omega)).trans Fw.out;have pn:Hid (∃ X:List Pv,io w3.heap.size w3 wa ⟨some ⟨ga,0,none⟩,x.n+1,ca⟩ X/\(∀ p∈X,eC ⟨some ⟨ga,0,none⟩,x.n+1,ca⟩ p)/\BX L (F.take (k+1)) X/\x.n+1=k+1):=⟨_,Oa,Fa,LJ.out,by rw [J2.out.1]⟩
      clear CY Oa Fa ka;refine wpAnyH_ready (rs:=[9]) (by kernel_rfl) (by simp) (.cons rfl (fun K hK=>?_) .nil);go_simp;refine hK.out _ _ (aG.out _ zA) (fun hHeld=>?_);clear hK K;refine wpAnyH_ready (rs:=[10]) (by kernel_rfl) (by simp) (.cons rfl (fun K hK=>?_) .nil);refine xx (by rfl) (.tmp 39) (.tmp 48) (by rfl) (by rfl) (by rfl) AI.out ?_;refine hK.out _ _ (aG.out _ za) (fun hHeld=>?_);clear hK K;refine wU 11 ?_;refine wpAnyH_done (by kernel_rfl) ?_ _;clear hHeld;clear zA za;go_wp2_with fail;go_roundw
      case rel=>exact ⟨k+1,⟨some ⟨ga,0,none⟩,x.n+1,ca⟩,cw.out,rfl,by simp,pn⟩
      case measure=>simp [intOf];have:=cw.out;omega
     ·have cL:¬ (k:Int) < (qn:Int):=by omega
      obtain ⟨X,O,-,Ad,Fd⟩:=HX.out;have hT:F.take k=F:=List.take_of_length_le (by have:=Eg.out;omega);rw [hT] at Ad;have ud:=hide Ad;have HP:Hid (fq wr x.o x.n X):=O.row
      have IH:Hid (wt X <= 8796093022207):=by
       show _ <= _
       have h1:=Ad.2;rw [Eg.out,HL.out.1] at h1;have h2:=Nat.mul_le_mul_right (n+1) LN.out;have h3:=uy.out;omega
      have Lw:x.n <= 8796093022207:=by omega
      have lK:=wTr aB O.below;have pE:=hide (oS.out.below O.below);clear O Ad hT Fd HX hk ak;go_wp2_with fail;refine (q9 x.o x.n x.c X _ HP.out IH.out Lw).mono ?_;rintro e w8 ⟨pj,rfl,Sj,-,b8,Cj⟩;have ia:=wTr lK b8;have CJ:=hide (pE.out.below b8);have Gb:=hide Sj;have Ea:=hide Cj;clear b8 Sj Cj lK pE;go_wp2_with fail;refine (jB ao n cap L pj _ CJ.out Gb.out).mono ?_;rintro e w9 (⟨-,-,a9,n9,c9,rfl,S9,b9,N9⟩ | ⟨fw,-⟩);rotate_left
      ·exact absurd ⟨HC.out,zW.1 Ea.out.canon⟩ fw
      ·have HE:Hid (ApA w w9 (.returned (.tuple #[.slice a9 n9 c9,.int .i64 0])) L R m):=.inl ⟨HC.out,HO.out,a9,n9,c9,rfl,by rw [<- zeW HC.out HF.out ud.out Ea.out];exact S9,ia.out.trans (b9.mono ia.out.size),fun ad h=>Nat.le_trans ia.out.size (N9 ad h)⟩;clear S9 b9 N9;go_wp2_with fail;go_ret2;exact HE.out
end
section
open Go.RowKit
def aK (s:Fc):Prop:=(K.okN s.es s.an=true/\aj s.p.P/\OkR s.rs s.rn)/\(∀ e∈s.es,inB s.p.P e=true)/\(∀ r∈s.rs,¬ wiP r.p.P s.p.P)/\∀ e∈s.es,cW s.rs e=true
def mK (s:Fc) (x:Int):Prop:=(aK s/\x=0)∨(¬ aK s/\x=1)
theorem zeo {L:List K.En} {P:Pst}:(L.filter (pkB P false)).length=0↔∀ e∈L,inB P e=true:=by
 rw [List.length_eq_zero_iff,List.filter_eq_nil_iff];refine forall_congr' fun e=>forall_congr' fun _=>?_;unfold pkB
 cases inB P e <;> simp
theorem zhB {L:List K.En} {R:List Rc}:(L.filter (cW R)).length=L.length↔∀ e∈L,cW R e=true:=by
 rw [List.length_filter_eq_length_iff]
theorem zhl {L F:List Rc} {P:Pst} (h:iA L P F):F.length=L.length↔∀ r∈L,¬ wiP r.p.P P:=by
 have e1:F.length=((plR L).filter (waitB P)).length:=by rw [<- h.2,jy]
 have e2:L.length=(plR L).length:=(jy L).symm;rw [e1,e2,List.length_filter_eq_length_iff];constructor
 ·intro k r hr hw;have:=k (r.s,r.p.P) (List.mem_map.2 ⟨r,hr,rfl⟩);have h2:waitB P (r.s,r.p.P)=false:=br (y:=(r.s,r.p.P)) hw;rw [h2] at this
  cases this
 ·intro k y hy;obtain ⟨r,hr,rfl⟩:=List.mem_map.1 hy;have h2:waitB P (r.s,r.p.P)=true:=wDq (y:=(r.s,r.p.P)) (k r hr);exact h2
theorem jl {L:List K.En} {n:Nat} (hl:L.length=n):K.chk L=0↔K.okN L n=true:=by
 unfold K.chk;rw [hl]
 split <;> simp_all
attribute [local go_sem ↓] zq zp zL zK
attribute [local go_sem] zi zj zk zm
theorem zbC (s:Fc) (w:World) (hF:aV w s) (hR:FcR s) (hwt:∀ t,wt (ofS s.rs t) <= 8796093022207) (mw:s.rn * (s.an+1) <= 8796093022207) (py:s.rn <= 2199023255551) :
  Calls Tryz.prog 27 #[FaV (mkF s)] w fun e w'=>aZ w w' e (mK s):=by
 have b1:=ze w (.cells (FaC (mkF s)) 31);have X1:=qr w (mkF s);obtain ⟨wk,aY⟩:∃ w1,w.alloc (.cells (FaC (mkF s)) 31)=w1:=⟨_,rfl⟩;rw [aY] at b1 X1;obtain ⟨G,dF⟩:∃ G,w.heap.size=G:=⟨_,rfl⟩;rw [dF] at X1;have HX:=hide X1;have aq:=hide b1;have HF:=hide (hF.below b1);have HR:=hide hR;have Ge:=hide hwt;have J8:Hid (s.rn * (s.an+1) <= 8796093022207/\s.rn <= 2199023255551):=⟨mw,py⟩;have gJ:Hid (s.es.length=s.an/\s.rs.length=s.rn):=⟨hF.es.1,hF.rs.len⟩;clear hF b1 X1 hR hwt mw py;obtain ⟨c0,c3⟩:=HX.out.cs;have lp:=zl HX.out.past;go_enter Tryz.func27,Tryz.ntmps27;go_wp2_with fail;clear aY dF c0 c3 lp;refine (jB s.ao s.an s.ac s.es s.p _ HF.out.es HF.out.p).mono ?_;rintro e w3 (⟨hc,hI,a3,n3,d3,rfl,S3,b3,-⟩ | ⟨fw,a3,n3,d3,rfl,S3,b3,-⟩);rotate_left
 ·have HE:Hid (aZ w w3 (.returned (.int .i64 1)) (mK s)):=⟨1,rfl,.inr ⟨fun h=>fw ⟨(jl gJ.out.1).2 h.1.1,h.1.2.1⟩,rfl⟩,aq.out.trans (b3.mono aq.out.size)⟩;clear fw S3 b3;go_wp2_with fail;go_ret;exact HE.out
 have H1:Hid (K.okN s.es s.an=true/\aj s.p.P/\(s.es.filter (pkB s.p.P false)).length=n3):=⟨(jl gJ.out.1).1 hc,hI,S3.1⟩;have aB:=hide b3;clear hc hI S3 b3;by_cases h3:n3=0;rotate_left
 ·have hp:(0:Int) < (n3:Int):=by omega
  have HE:Hid (aZ w w3 (.returned (.int .i64 1)) (mK s)):=⟨1,rfl,.inr ⟨fun h=>h3 (by rw [<- H1.out.2.2];exact zeo.2 h.2.1),rfl⟩,aq.out.trans (aB.out.mono aq.out.size)⟩;go_wp2_with fail;go_ret;exact HE.out
 subst h3;have H2:Hid (∀ e∈s.es,inB s.p.P e=true):=zeo.1 H1.out.2.2;obtain ⟨c0,c3⟩:=(HX.out.below aB.out).cs;have lp:=zl (HX.out.below aB.out).past;go_wp2_with fail;clear c0 c3 lp;refine (jD s.ro s.rn s.rc s.rs s.p _ ((HF.out.row HR.out).below aB.out) (HF.out.p.below aB.out) J8.out.2).mono ?_;rintro e w4 (⟨hO,-,⟨fo,fn,fc⟩,F,rfl,G4,n4,W4⟩ | ⟨fw,rfl,b4⟩);rotate_left
 ·have HE:Hid (aZ w w4 (.returned (.int .i64 1)) (mK s)):=⟨1,rfl,.inr ⟨fun h=>fw ⟨h.1.2.2,h.1.2.1⟩,rfl⟩,aq.out.trans ((aB.out.trans (b4.mono aB.out.size)).mono aq.out.size)⟩;clear fw b4;go_wp2_with fail;go_ret;exact HE.out
 have aQ:=wTr aB G4.below;have H3:Hid (OkR s.rs s.rn/\iA s.rs s.p.P F/\F.length=fn/\fn <= s.rn):=⟨hO,W4,G4.src.len,n4⟩;rw [show HsV ⟨fo,fn,fc⟩=Value.slice fo fn fc from rfl];clear hO G4 n4 W4;obtain ⟨c0,c3⟩:=(HX.out.below aQ.out).cs;by_cases h4:fn < s.rn
 ·have hp:(fn:Int) < (s.rn:Int):=by omega
  have HE:Hid (aZ w w4 (.returned (.int .i64 1)) (mK s)):=⟨1,rfl,.inr ⟨fun h=>by
   have h5:=(zhl H3.out.2.1).2 h.2.2.1;rw [H3.out.2.2.1,gJ.out.2] at h5
   omega,rfl⟩,aq.out.trans (aQ.out.mono aq.out.size)⟩
  go_wp2_with fail;clear c0 c3;go_ret;exact HE.out
 have hp:¬ (fn:Int) < (s.rn:Int):=by omega
 have H4:Hid (∀ r∈s.rs,¬ wiP r.p.P s.p.P):=(zhl H3.out.2.1).1 (by rw [H3.out.2.2.1,gJ.out.2];have:=H3.out.2.2.2;omega);clear h4;go_wp2_with fail;clear c0 c3 hp;refine (yx s.ao s.ro s.an s.ac s.rn s.rc s.es s.rs _ (HF.out.es.below aQ.out) (HF.out.rs.below aQ.out) Ge.out J8.out.1).mono ?_;rintro e w5 (⟨-,-,a5,n5,d5,rfl,S5,b5,-⟩ | ⟨fw,-⟩);rotate_left
 ·exact absurd ⟨(jl gJ.out.1).2 H1.out.1,H3.out.1⟩ fw
 have dO:=wTr aQ b5;have H5:Hid ((s.es.filter (cW s.rs)).length=n5):=S5.1;clear S5 b5;obtain ⟨c0,c3⟩:=(HX.out.below dO.out).cs
 have ip:n5 <= s.an:=by
  have h:=List.length_filter_le (cW s.rs) s.es;have h6:=H5.out;have h7:=gJ.out.1;omega
 by_cases h6:n5 < s.an
 ·have hp:(n5:Int) < (s.an:Int):=by omega
  have HE:Hid (aZ w w5 (.returned (.int .i64 1)) (mK s)):=⟨1,rfl,.inr ⟨fun h=>by
   have h5:=zhB.2 h.2.2.2;have h8:=H5.out;have h7:=gJ.out.1
   omega,rfl⟩,aq.out.trans (dO.out.mono aq.out.size)⟩
  clear ip;go_wp2_with fail;clear c0 c3;go_ret;exact HE.out
 have hp:¬ (n5:Int) < (s.an:Int):=by omega
 have HE:Hid (aZ w w5 (.returned (.int .i64 0)) (mK s)):=⟨0,rfl,.inl ⟨⟨⟨H1.out.1,H1.out.2.1,H3.out.1⟩,H2.out,H4.out,zhB.1 (by
  have h8:=H5.out;have h7:=gJ.out.1
  omega)⟩,rfl⟩,aq.out.trans (dO.out.mono aq.out.size)⟩
 clear ip h6;go_wp2_with fail;clear c0 c3;go_ret;exact HE.out
end
section
open Go.RowKit
attribute [local go_sem ↓] zq zp zB zz zV zU K.zx K.zw
attribute [local go_sem] zi zj zk zm zv zC zN zS ql K.zI K.zt K.zF K.xu
theorem Bs (L:List K.En) (k:Nat) (h:k < L.length):L.take (k+1)=L.take k++[L.getD k K.en0]:=by
 rw [List.take_succ_eq_append_getElem h];simp [List.getD,h]
def LvS (w w':World) (x:Ending) (L:List K.En):Prop:=∃ ao n c,x = .returned (.slice ao n c)/\K.aD w' ao n c L/\Below w.heap.size w w'
end
section
open Go.RowKit Go.Maps
def WvA (w w':World) (x:Ending) (L:List Rc) (P:Pst):Prop:=∃ (h:Hs) (F:List Rc),x = .returned (.slice h.o h.n h.c)/\RcS w' h.o h.n h.c F/\Below w.heap.size w w'/\iA L P F/\h.n <= h.c/\(h.o=none -> h.c=0)
attribute [local go_sem ↓] zq zp zZ zY
attribute [local go_sem] zi zj zJ zQ qe
end
section
open Go.RowKit
attribute [local go_sem ↓] zq zp
attribute [local go_sem] zi zj
variable {w w' w2 W W' : World} {g : Nat}

def Nv (d:Rn):Sn:=⟨d.lo,d.hi,d.hi⟩
structure RO (w2 W:World) (g3:Nat) (ao:Option Addr) (k cap:Nat) (acc:List Sn):Prop where
 own:eH g3 (g3+1) w2 W ao cap acc
 box:W.heap[g3]? = some (.cells #[.slice none 0 0,.slice ao k cap] 26 (0,0))
 len:acc.length=k
end
section
open Go.RowKit
attribute [local go_sem ↓] zq zp zZ zY zV zU K.zx K.zw K.qz
attribute [local go_sem] zi zj zJ zQ K.zt K.zF qe K.zI
end
end Go.Proofs.YtjffpimfngdggaaGreat
namespace Go.Proofs.YtjffpimfngdggaaGreat.K
open Go.RowKit Go.Maps Go.Sort

structure Ln where
 sku:ByteArray
 qty:Int
 parts:Int
def ln0:Ln:=⟨⟨#[]⟩,0,0⟩
def fv (l:Ln) (e:En):Ln:=⟨e.sku,l.qty+e.qty,l.parts+1⟩
def ofS (L:List En) (s:ByteArray):List En:=L.filter (fun e=>eqS e.sku s)
def cK (L:List En) (s:ByteArray):Ln:=(ofS L s).foldl fv ln0
theorem kp (a b:ByteArray):eqS a b=true↔a=b:=by
 unfold eqS;rw [beq_iff_eq,ByteArray.toList_eq,ByteArray.toList_eq];constructor
 ·intro h;cases a;cases b;simp at h;simp [h]
 ·rintro rfl;rfl
theorem zi9 (a b:ByteArray):eqS a b=false↔a≠b:=by
 rw [<- Bool.not_eq_true,ne_eq,kp]
theorem wf (L:List En) (e:En) (s:ByteArray):ofS (L++[e]) s=if e.sku=s then ofS L s++[e] else ofS L s:=by
 unfold ofS;rw [List.filter_append];by_cases h:e.sku=s
 ·rw [if_pos h];simp [(kp _ _).2 h]
 ·rw [if_neg h];simp [(zi9 _ _).2 h]
theorem zb1 (L:List En) (e:En):cK (L++[e]) e.sku=fv (cK L e.sku) e:=by
 unfold cK;rw [wf,if_pos rfl,List.foldl_append];rfl
theorem zbe (L:List En) (e:En) (s:ByteArray) (h:e.sku≠s):cK (L++[e]) s=cK L s:=by
 unfold cK;rw [wf,if_neg h]
def lD (L:List En):Prop:=∀ e∈L,1 <= e.qty/\e.qty <= 1000000
theorem zjd {z:En} (hz:ceE z=0):1 <= z.qty/\z.qty <= 1000000:=by
 unfold ceE at hz;by_cases h1:isR z.rep=false
 ·rw [if_pos h1] at hz;omega
 ·rw [if_neg h1] at hz;by_cases h2:z.num < 1∨1000000000 < z.num
  ·rw [if_pos h2] at hz;omega
  ·rw [if_neg h2] at hz;by_cases h3:fG z.sku.data.toList=false
   ·rw [if_pos h3] at hz;omega
   ·rw [if_neg h3] at hz;by_cases h4:z.qty < 1∨1000000 < z.qty
    ·rw [if_pos h4] at hz;omega
    ·omega
theorem xZ {L:List En} (h:chk L=0):∀ e∈L,ceE e=0:=by
 intro e he;obtain ⟨k,hk,rfl⟩:=List.getElem_of_mem he;have:=yd L _ (wu h) k hk;simp only [okAt,Bool.and_eq_true,beq_iff_eq] at this
 have e1:L.getD k en0=L[k]:=by simp [List.getD,hk]
 rw [<- e1];exact this.1
theorem zir {L:List En} (h:chk L=0):lD L:=fun e he=>zjd (xZ h e he)
theorem zic (L:List En) (h:lD L):∀ l:Ln,(L.foldl fv l).qty <= l.qty+L.length * 1000000/\l.qty+L.length <= (L.foldl fv l).qty/\(L.foldl fv l).parts=l.parts+L.length:=by
 induction L with
 | nil=>intro l;simp
 | cons a L ih =>
  intro l;have ha:=h a (by simp);have:=ih (fun e he=>h e (by simp [he])) (fv l a);simp only [List.foldl_cons,List.length_cons,fv] at this ⊢;omega
theorem vD (L:List En) (s:ByteArray):(ofS L s).length <= L.length:=List.length_filter_le _ _
theorem ziZ {L:List En} (h:lD L) (s:ByteArray):lD (ofS L s):=fun e he=>h e (List.mem_filter.1 he).1
theorem zh3 (L:List En) (h:lD L) (s:ByteArray):0 <= (cK L s).qty/\(cK L s).qty <= L.length * 1000000/\0 <= (cK L s).parts/\(cK L s).parts <= L.length:=by
 have:=zic (ofS L s) (ziZ h s) ln0;have hl:=vD L s;unfold cK;simp only [ln0] at this ⊢;omega
theorem zan (L:List En) (s:ByteArray) (h:∀ e∈L,e.sku=s):∀ l:Ln,L≠[] -> (L.foldl fv l).sku=s:=by
 induction L with
 | nil=>intro l h;exact absurd rfl h
 | cons a L ih =>
  intro l _
  cases L with
  | nil=>simp [fv,h a (by simp)]
  | cons b L=>exact ih (fun e he=>h e (by simp [he])) (fv l a) (by simp)
theorem km {L:List En} {s:ByteArray} {e:En}:e∈ofS L s↔e∈L/\e.sku=s:=by
 unfold ofS;rw [List.mem_filter,kp]
theorem zad (L:List En) (e:En) (he:e∈L):(cK L e.sku).sku=e.sku:=by
 refine zan _ _ (fun x hx=>(km.1 hx).2) _ (fun h=>?_);have:e∈ofS L e.sku:=km.2 ⟨he,rfl⟩;rw [h] at this;cases this
def fY (L:List En) (R:List Ln) (er:Int):Prop:=
 (chk L≠0/\R=[]/\er=1)∨(chk L=0/\er=0/\R.Pairwise (fun a b=>a.sku.data.toList < b.sku.data.toList)/\∀ l,l∈R↔∃ e∈L,l=cK L e.sku)
theorem bQ:∀ {R R':List Ln},R.Pairwise (fun a b=>a.sku.data.toList < b.sku.data.toList) -> R'.Pairwise (fun a b=>a.sku.data.toList < b.sku.data.toList) -> (∀ l,l∈R↔l∈R') -> R=R':=by
 intro R R' h h' hm;have nd:∀ {R:List Ln},R.Pairwise (fun a b=>a.sku.data.toList < b.sku.data.toList) -> R.Nodup:=fun {R} h=>h.imp (fun {a b} dS e=>by subst e;exact List.lt_irrefl _ dS);have hp:R.Perm R':=(List.perm_ext_iff_of_nodup (nd h) (nd h')).2 hm;refine List.Perm.eq_of_pairwise (le:=fun a b:Ln=>a.sku.data.toList < b.sku.data.toList) (fun a b _ _ h1 h2=>?_) h h' hp;exact absurd (List.lt_trans h1 h2) (List.lt_irrefl _)
theorem fY.unique {L:List En} {R R':List Ln} {e e':Int} (h:fY L R e) (h':fY L R' e'):R=R'/\e=e':=by
 rcases h with ⟨a,b,c⟩ | ⟨a,b,c,d⟩
 ·rcases h' with ⟨_,b',c'⟩ | ⟨a',_⟩
  ·exact ⟨b.trans b'.symm,c.trans c'.symm⟩
  ·exact absurd a' a
 ·rcases h' with ⟨a',_⟩ | ⟨_,b',c',d'⟩
  ·exact absurd a a'
  ·exact ⟨bQ c c' (fun l=>(d l).trans (d' l).symm),b.trans b'.symm⟩

def Mp (D:DataW Ln) (L:List En):Prop:=(∀ s:ByteArray,has D (.string s.data.toList)=true↔∃ e∈L,e.sku=s)/\∀ s:ByteArray,D.atKey (.string s.data.toList) (.held ln0) = .held (cK L s)
theorem zge:Mp (.map []) []:=⟨fun s=>by simp [has],fun s=>rfl⟩
theorem zd5 {a b:ByteArray} (h:(Lit.string a.data.toList) = .string b.data.toList):a=b:=by
 cases a;cases b;simp at h;simp [h]
theorem zh1 {D:DataW Ln} {L:List En} (h:Mp D L) (hm:IsMap D) (e:En):Mp (D.put (.string e.sku.data.toList) (.held (fv (cK L e.sku) e))) (L++[e]):=by
 refine ⟨fun s=>?_,fun s=>?_⟩
 ·by_cases hs:e.sku=s
  ·subst hs;rw [has_put_same hm (k:=.string e.sku.data.toList) (show WideAt.IsKeyLit (.string e.sku.data.toList) from trivial)];exact ⟨fun _=>⟨e,by simp,rfl⟩,fun _=>rfl⟩
  ·rw [has_put_other (fun he=>hs (zd5 he).symm),h.1 s];constructor
   ·rintro ⟨x,hx,rfl⟩;exact ⟨x,by simp [hx],rfl⟩
   ·rintro ⟨x,hx,rfl⟩;rcases List.mem_append.1 hx with hx | hx
    ·exact ⟨x,hx,rfl⟩
    ·simp at hx;subst hx;exact absurd rfl hs
 ·by_cases hs:e.sku=s
  ·subst hs;rw [atKey_put_same hm (k:=.string e.sku.data.toList) (show WideAt.IsKeyLit (.string e.sku.data.toList) from trivial),zb1]
  ·rw [atKey_put_other (fun he=>hs (zd5 he).symm),h.2 s,zbe _ _ _ hs]
theorem zac {P:Program} {k:TypeId} {R:Value -> Option (DataW Ln × List MemPlace)} {w:World} {b n:Nat} {D:DataW Ln} {L:List En} (aM:w.ownsMap P k R b n D) (K:Keyed P k) (hk:P.underlying k=some .string) (hM:Mp D L) (hc:chk L=0)
  {ss:List (List UInt8)} (hp:ss.Perm (strKeys D)):fY L ((ss.mergeSort leB).map (fun x=>cK L ⟨x.toArray⟩)) 0:=by
 obtain ⟨es,hD,Gw,_⟩:=aM.entries K;obtain ⟨es',Ek,Hn⟩:=aM.keysOf
 obtain rfl:es=es':=by rw [hD] at Ek;simpa using Ek
 subst hD
 have sU:∀ p∈es,∃ x,p.1 = .string x:=fun p hp=>by obtain ⟨v,hv⟩:=Hn p hp;obtain ⟨x,_,hx,_⟩:=Maps.keyOf_str hk hv;exact ⟨x,hx⟩
 have BU:(strKeys (.map es)).Nodup:=by
  show (es.map fun p=>strOf p.1).Nodup
  refine List.pairwise_map.2 (Gw.imp_of_mem fun {p q} nE hq' ch e=>ch ?_);obtain ⟨a,ha⟩:=sU p nE;obtain ⟨b,hb⟩:=sU q hq';rw [ha,hb] at e ⊢;exact congrArg _ e
 have m8:∀ x,x∈strKeys (.map es)↔has (.map es) (.string x)=true:=fun x=>by
  rw [has_eq,List.any_eq_true]
  show x∈es.map (fun p=>strOf p.1)↔_
  rw [List.mem_map];constructor
  ·rintro ⟨p,nE,rfl⟩;obtain ⟨a,ha⟩:=sU p nE;exact ⟨p,nE,by rw [ha];simp [Lit.sameKey,strOf]⟩
  ·rintro ⟨p,nE,hs⟩;obtain ⟨a,ha⟩:=sU p nE;rw [ha] at hs;exact ⟨p,nE,by rw [ha];simpa [Lit.sameKey,strOf] using hs⟩
 have hT:(ss.mergeSort leB).Perm (strKeys (.map es)):=(List.mergeSort_perm ss leB).trans hp
 have tr:∀ a b c:List UInt8,leB a b=true -> leB b c=true -> leB a c=true:=fun a b c h1 h2=>by simp only [leB,decide_eq_true_eq] at *;exact List.le_trans h1 h2
 have tott:∀ a b:List UInt8,(leB a b || leB b a)=true:=fun a b=>by simp only [leB,Bool.or_eq_true,decide_eq_true_eq];exact List.le_total a b
 have mo:(ss.mergeSort leB).Pairwise (fun a b=>leB a b=true):=List.pairwise_mergeSort tr tott ss;have Bi:(ss.mergeSort leB).Nodup:=hT.nodup_iff.2 BU
 have ak:(ss.mergeSort leB).Pairwise (fun a b=>a < b):=(mo.and Bi).imp (fun {a b} h=>by
  obtain ⟨h1,h2⟩:=h;simp only [leB,decide_eq_true_eq] at h1;refine Classical.byContradiction fun h=>h2 (List.le_antisymm h1 ?_)
  exact List.not_lt.1 h)
 have lJ:∀ x,x∈ss.mergeSort leB↔∃ e∈L,e.sku=⟨x.toArray⟩:=fun x=>by
  rw [hT.mem_iff,m8];have:=hM.1 ⟨x.toArray⟩;simpa using this
 refine Or.inr ⟨hc,rfl,?_,fun l=>?_⟩
 ·rw [List.pairwise_map];refine ak.imp_of_mem (fun {a b} ha hb dS=>?_);obtain ⟨e,he,Fx⟩:=(lJ a).1 ha;obtain ⟨f,hf,pz⟩:=(lJ b).1 hb;rw [<- Fx,<- pz,zad L e he,zad L f hf,Fx,pz];simpa using dS
 ·rw [List.mem_map];constructor
  ·rintro ⟨x,hx,rfl⟩;obtain ⟨e,he,Fx⟩:=(lJ x).1 hx;exact ⟨e,he,by rw [Fx]⟩
  ·rintro ⟨e,he,rfl⟩;refine ⟨e.sku.data.toList,(lJ _).2 ⟨e,he,?_⟩,?_⟩
   ·cases hq:e.sku;simp
   ·cases hq:e.sku;simp
end Go.Proofs.YtjffpimfngdggaaGreat.K
namespace Go.Proofs.YtjffpimfngdggaaGreat
open Go.RowKit
attribute [local go_sem ↓] zq zp zV zU K.zx K.zw K.qz
attribute [local go_sem] zi zj K.zt K.zF K.zI
def noS (L:List K.En) (s:ByteArray):List K.En:=L.filter (fun e => !K.eqS e.sku s)
def kpB (s:ByteArray) (P:Pst) (e:K.En):Bool:=(decide (s.size=0) || (e.sku.toList == s.toList)) && inB P e
def ktL (L:List K.En) (s:ByteArray) (P:Pst):List K.En:=L.filter (fun e => !kpB s P e)
end Go.Proofs.YtjffpimfngdggaaGreat
namespace Go.Proofs.YtjffpimfngdggaaGreat.K
open Go.RowKit

def LC (e:Ln):Array Value:=#[.string e.sku,.int .i64 e.qty,.int .i64 e.parts]
abbrev LV (e:Ln):Value:=.agg (LC e)
theorem zaI (e:Ln):(LC e).size=3:=rfl
theorem zhI (e:Ln):∀ v∈(LC e).toList,v.oneCell'=true:=by
 intro v hv;simp [LC] at hv;rcases hv with rfl | rfl | rfl <;> rfl
theorem zaB (e:Ln):(LV e).cells=LC e:=by simp [Value.cells]
theorem zdU:(#[.string ⟨#[]⟩,.int .i64 0,.int .i64 0]:Array Value)=LC ln0:=rfl
structure tK (w:World) (p:Addr) (e:Ln):Prop where
 c0:w.cell? p=some (.string e.sku)
 c1:w.cell? (p.add 1)=some (.int .i64 e.qty)
 c2:w.cell? (p.add 2)=some (.int .i64 e.parts)
def iO (w:World) (g:Nat) (T:TypeId) (e:Ln):Prop:=w.heap[g]? = some (.cells (LC e) T (0,0))
theorem iO.at {w:World} {g:Nat} {T:TypeId} {e:Ln} (h:iO w g T e):tK w ⟨g,0,none⟩ e:=by
 unfold iO at h;refine ⟨?_,?_,?_⟩ <;> simp [Addr.add,World.cell?,h,LC]
theorem zcO (w:World) (T:TypeId) (e:Ln):iO (w.alloc (.cells (LC e) T)) w.heap.size T e:=by unfold iO;rw [heap_alloc_new]

def ldL (v:Value):Sem Value:=Instr.loadAt 108 v
theorem zi5 (v:Value):Instr.loadAt 108 v=ldL v:=rfl
def stL (p v:Value):Sem Unit:=Instr.storeAt 108 p v
theorem zhp (p v:Value):Instr.storeAt 108 p v=stL p v:=rfl
theorem oF:(Tryz.prog.info? 108).map (·.size)=some 3:=by kernel_rfl
theorem zhU {w:World} {p:Addr} {e:Ln} (A:tK w p e):(loadVar 108 p).run Tryz.prog w = .ok (LV e) w:=by
 have hl:=run_loadCells_list (P:=Tryz.prog) (w:=w) p (LC e).toList (fun j v hv=>by
  match j,hv with
  | 0,hv=>cases hv;rw [add_zero];exact A.c0
  | 1,hv=>cases hv;exact A.c1
  | 2,hv=>cases hv;exact A.c2
  | j+3,hv=>simp [LC] at hv)
 cases hq:Tryz.prog.info? 108 with
 | none=>have:=oF;simp [hq] at this
 | some x =>
  have hs:x.size=3:=by have:=oF;simpa [hq] using this
  have dR:(isAgg 108).run Tryz.prog w = .ok true w:=by
   unfold isAgg;rw [Sem.run_bind,run_underlying Tryz.underlying108 w];rfl
  have e4:(LC e).toList.length=3:=rfl;rw [e4] at hl;simp [loadVar,Sem.run_bind,dR,sizeOf,typeInfo,hq,hs,hl,LV]
theorem zhS {w:World} {g:Nat} {T:TypeId} {e e':Ln} (A:iO w g T e) :
  (stL (.pointer (some ⟨g,0,none⟩)) (LV e')).run Tryz.prog w = .ok () (w.setRow g (LC e')):=by
 unfold stL;have h:=run_storeCells_from (P:=Tryz.prog) g T (LC e').toList 0 (LC e) w A (by simp [LC]) (zhI e')
 cases hq:Tryz.prog.info? 108 with
 | none=>have:=oF;simp [hq] at this
 | some x =>
  have hs:x.size=3:=by have:=oF;simpa [hq] using this
  simp only [Instr.storeAt,Instr.sureAddr,Sem.run_bind,Sem.run_pure,Result.andThen,storeVar,sizeOf,typeInfo,zaB,zaI];simp at h;simp [h,hq,hs]
theorem iO.setRow {w:World} {g:Nat} {T:TypeId} {e e':Ln} (A:iO w g T e):iO (w.setRow g (LC e')) g T e':=setRow_heap w g _ _ _ _ A
theorem EF (w:World) (e:Ln) (g:Nat) (hg:w.heap.size=g):∃ w':World,(stL (.pointer (some ⟨g,0,none⟩)) (LV e)).run Tryz.prog (w.alloc (.cells (LC ln0) 108)) = .ok () w'/\iO w' g 108 e/\Below w.heap.size w w'/\w'.heap.size=w.heap.size+1:=by
 subst hg;refine ⟨_,zhS (zcO w 108 ln0),(zcO w 108 ln0).setRow,zh (ze w _) (Nat.le_refl _),by simp [World.setRow]⟩

def nT (w:World) (ao:Option Addr) (m c:Nat) (L:List Ln):Prop:=
 L.length=m/\(ao=none -> m=0/\c=0)/\(∀ ad,ao=some ad -> ∀ t,t < m -> tK w (ad.add (t * 3)) (L.getD t ln0))/\(∀ e∈L,e.sku.size <= maxLen)/\m <= 3518437208883
theorem nT.at {w:World} {ao:Option Addr} {m c:Nat} {L:List Ln} (h:nT w ao m c L) (k:Nat) (hk:k < m):∃ ad,ao=some ad/\tK w (ad.add (k * 3)) (L.getD k ln0):=by
 cases ao with
 | none=>have:=h.2.1 rfl;omega
 | some ad=>exact ⟨ad,rfl,h.2.2.1 ad rfl k hk⟩
theorem nT.none (w:World):nT w none 0 0 []:=⟨rfl,fun _=>⟨rfl,rfl⟩,(fun ad h=>by cases h),(fun e he=>by cases he),by omega⟩
def lcs (L:List Ln):List Value:=(L.map (fun e=>(LC e).toList)).flatten
theorem zdx (L R:List Ln):lcs (L++R)=lcs L++lcs R:=by simp [lcs]
theorem zh5 (e:Ln):lcs [e]=(LC e).toList:=by simp [lcs]
theorem zi6 (L:List Ln) (t j:Nat) (ht:t < L.length) (hj:j < 3):(lcs L)[t * 3+j]? = (LC (L.getD t ln0)).toList[j]?:=by
 induction L generalizing t with
 | nil=>simp at ht
 | cons a L ih =>
  have e:lcs (a :: L)=(LC a).toList++lcs L:=rfl
  cases t with
  | zero=>rw [e,List.getElem?_append_left (by simp [LC];omega)];simp [List.getD]
  | succ t =>
   rw [e,List.getElem?_append_right (by simp [LC];omega)];have h:=ih t (by simpa using ht)
   have e4:(t+1) * 3+j - (LC a).toList.length=t * 3+j:=by simp [LC];omega
   rw [e4,h];simp [List.getD]
theorem Ey:(Tryz.prog.info? 108).map (fun i=>(i.zero,i.size,i.bytes))=some (some (.agg #[.string ⟨#[]⟩,.int .i64 0,.int .i64 0]),3,32):=by kernel_rfl

structure iT (B0 B:Nat) (w w':World) (ao:Option Addr) (cap:Nat) (acc:List Ln):Prop where
 own:w'.ownsRow B 108 3 (.slice ao acc.length cap) acc.length (lcs acc)
 below:Below B0 w w'
 hB:B <= w'.heap.size
 hB0:B0 <= B
theorem iT.nil {B0 B:Nat} {w w':World} (hb:Below B0 w w') (hB:B <= w'.heap.size) (h0:B0 <= B):iT B0 B w w' none 0 []:=
 ⟨World.ownsRow_nil _ _ _ _,hb,hB,h0⟩
theorem iT.append {B0 B:Nat} {w w':World} {ao:Option Addr} {cap:Nat} {acc:List Ln} (O:iT B0 B w w' ao cap acc) (e:Ln) (C:Array Value) (hC:C=LC e) (cF:acc.length < 3518437208883)
  {ops:Array Oper} {rest:List Oper} {o:Oper} {a:Act} {Q:Exit -> Act -> World -> Prop} (hgd:o.guard=none) (s x:Operand) (ho:o.op = .call { callee:=.builtin .append,args:=#[s,x],argTypes:=#[71,71] })
  (n:Nat) (hn:acc.length=n) (hs:a.eval s = .slice ao n cap) (hx:a.eval x = .slice (some ⟨w'.heap.size,0,none⟩) 1 1)
  (hK:∀ (g cap2:Nat) (w2:World),iT B0 B w w2 (some ⟨g,0,none⟩) cap2 (acc++[e]) -> (∀ k,k < B -> w2.heap[k]? = w'.heap[k]?) -> wpList Tryz.prog ops Q rest (a.put o.dst (.slice (some ⟨g,0,none⟩) (n+1) cap2)) w2) :
  wpList Tryz.prog ops Q (o :: rest) a (w'.alloc (.cells C 108)):=by
 subst hn hC;obtain ⟨i0,hi,dg,dn,ee⟩:=info_parts Ey;have hB:=O.hB;have hB0:=O.hB0;refine wpList_append_own _ hgd s x 71 ho B 108 i0 (.agg #[.string ⟨#[]⟩,.int .i64 0,.int .i64 0]) 3 32 Tryz.underlying71 hi dg dn ee rfl (by decide) _ acc.length (lcs acc) hs (O.own.alloc _) ⟨w'.heap.size,0,none⟩ 1 1 (LC e).toList hx (by simp [LC]) ?_ ?_ (by unfold maxLen;omega) (by omega) (by simp;omega) ?_
 ·intro j u hj;rw [Addr.add_lit,Nat.zero_add,World.cell?_alloc_new];simpa using hj
 ·intro u hu;exact zhI e u hu
 ·intro v' w2 aM az _;rcases aM.2 with ⟨h0,fh⟩ | ⟨g,cap2,cur,hv,dN,dy,hnc,eV,hcsz,htake⟩
  ·omega
  ·subst hv;have dx:∀ k,(Value.slice ao acc.length cap).ownBlock=some k -> B <= k:=fun k hk=>(O.own.lt k hk).1;have dP:=az.size;rw [World.size_alloc] at dP;refine hK g cap2 w2 ⟨?_,(O.below.alloc (by omega) _).grown az (by simp;omega) (fun k hk=>by have:=dx k hk;omega),by omega,hB0⟩ (fun k hk=>?_)
   ·rw [List.length_append,zdx,zh5];exact aM
   ·rw [az.block k (by simp;omega) (fun e=>by have:=dx k e.symm;omega)];exact Below.heap_alloc _ _ _ (by omega)
theorem iT.src {B0 B:Nat} {w w':World} {ao:Option Addr} {cap:Nat} {acc:List Ln} (O:iT B0 B w w' ao cap acc) (hs:∀ e∈acc,e.sku.size <= maxLen) (hl:acc.length <= 3518437208883):nT w' ao acc.length cap acc/\∀ ad,ao=some ad -> B <= ad.block:=by
 rcases O.own.2 with ⟨h0,fh⟩ | ⟨g,cap2,cur,hv,dN,dy,hnc,eV,hcsz,htake⟩
 ·simp only [Value.slice.injEq] at h0;obtain ⟨rfl,e0,rfl⟩:=h0;exact ⟨⟨rfl,fun _=>⟨fh,rfl⟩,fun ad h=>(by cases h),hs,hl⟩,fun ad h=>(by cases h)⟩
 ·simp only [Value.slice.injEq,true_and] at hv;obtain ⟨rfl,rfl⟩:=hv
  have cell:∀ t j,t < acc.length -> j < 3 -> w'.cell? ⟨g,t * 3+j,none⟩=(LC (acc.getD t ln0)).toList[j]?:=fun t j ht hj=>by
   rw [O.own.cellAt (t * 3+j) (by omega),zi6 _ t j ht hj]
  refine ⟨⟨rfl,fun h=>(by cases h),fun ad h t ht=>?_,hs,hl⟩,fun ad h=>by obtain rfl:=Option.some.inj h;exact dN⟩;obtain rfl:=Option.some.inj h;refine ⟨?_,?_,?_⟩
  ·rw [Addr.add_lit,Nat.zero_add];exact cell t 0 ht (by omega)
  ·rw [Addr.add_lit,Addr.add_lit,Nat.zero_add];exact cell t 1 ht (by omega)
  ·rw [Addr.add_lit,Addr.add_lit,Nat.zero_add];exact cell t 2 ht (by omega)
end Go.Proofs.YtjffpimfngdggaaGreat.K
