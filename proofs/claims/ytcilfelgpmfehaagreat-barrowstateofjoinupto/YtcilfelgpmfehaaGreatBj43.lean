/- YGi -/
import Derived.Test.YtcilfelgpmfehaaGreatBj40
import Derived.Test.YtcilfelgpmfehaaGreatBj41
import Derived.Test.YtcilfelgpmfehaaGreatBj42
set_option maxRecDepth 100000
set_option maxHeartbeats 6400000
namespace Go.Proofs.YtcilfelgpmfehaaGreat
open Go.RowKit
attribute [local go_sem ↓] zl zk zR zQ
attribute [local go_sem] zf zh zy zH zT
def iO (b:Bool) (P:Prop):Prop:=b=false↔P
theorem zbN:af pv0.P:=⟨by decide,trivial⟩
theorem ns:fC pv0.P:=fun r _ n h=>by
 have hv:aQ (V.at' pv0.P.vec r)=[]:=by
  have h:V.at' pv0.P.vec r=0:=by
   unfold V.at'
   split
   ·rfl
   ·rfl
  rw [h];rfl
 unfold aa at h;rw [hv] at h;exact qN n h
theorem gC {P:Pst} (hI:af P):fC P↔P.vec.length=0/\P.cloud.length=0:=by
 constructor
 ·intro h;have e:P=pv0.P:=(zz.2 hI:ae (aa P) P).unique (zz.2 zbN:ae (aa pv0.P) pv0.P) fun r hr n=>⟨fun hm=>absurd hm (h r hr n),fun hm=>absurd hm (ns r hr n)⟩;rw [e];exact ⟨rfl,rfl⟩
 ·rintro ⟨h1,h2⟩
  have e:P=pv0.P:=by
   obtain ⟨v,c⟩:=P;rw [show v=[] from List.eq_nil_of_length_eq_zero h1,show c=[] from List.eq_nil_of_length_eq_zero h2];rfl
  rw [e];exact ns
theorem zfY {a b:Rc} (ha:af a.p.P) (hb:af b.p.P):LtR a b↔eH a.s b.s < 0∨(eH a.s b.s=0/\dJ a.p.P b.p.P < 0):=by
 have hz:gK a.p.P b.p.P (dJ a.p.P b.p.P):=⟨a.p.P,b.p.P,zz.2 ha,zz.2 hb,rfl⟩;have hr:=y6.rng a.s b.s;constructor
 ·rintro ⟨z,(⟨h1,rfl⟩ | ⟨h1,h2⟩),h3⟩
  ·exact .inl h3
  ·rw [h2.unique hz] at h3;exact .inr ⟨h1,h3⟩
 ·rintro (h | ⟨h1,h2⟩)
  ·exact ⟨_,.inl ⟨by omega,rfl⟩,h⟩
  ·exact ⟨_,.inr ⟨h1,hz⟩,h2⟩
theorem jU (ao:Option Addr) (n cap:Nat) (L:List Rc) (w:World) (hS:RcS w ao n cap L):Calls Tryz.prog 30 #[.slice ao n cap] w fun e w'=>dr w w' e (OkR L n):=by
 have HS:=hide hS;have hn:=hS.big;clear hS;go_enter Tryz.func30,Tryz.ntmps30;go_wp2_with fail;go_loopw [7] (fun i wr=>∃ k:Nat,k <= n/\i = .int .i64 k/\Hid (OkR L k/\Below w.heap.size w wr)) (fun i _=>n - (intOf i).toNat)
 case atStart=>exact ⟨0,Nat.zero_le _,rfl,yK L,Below.refl _ _⟩
 case round =>
  obtain ⟨k,hk,rfl,HK⟩:=hrel
  rename World=>wr
  by_cases aq:k < n
  ·obtain ⟨ad,rfl,A0⟩:=(HS.out.below HK.out.2).at k aq;obtain ⟨b1,o1,rfl⟩:=HS.out.spot (by omega);have ho:=(HS.out.below HK.out.2).okAt k aq;obtain ⟨r,Hr⟩:∃ r,Hid (L.getD k rc0=r):=⟨_,rfl⟩;rw [Hr.out] at A0 ho;rw [Addr.add_lit] at A0;have dz:=zI A0;obtain ⟨g,hg⟩:∃ g,wr.heap.size=g:=⟨_,rfl⟩;obtain ⟨w2,cr,X2,B2,-⟩:=dY wr (mkR r) g hg;have dN:=hide X2;have cd:=hide (HK.out.2.trans (B2.mono HK.out.2.size));have HO:=hide (ho.below B2);have cj:=hide aq;have lE:Hid (¬ aM r -> ¬ OkR L n):=fun h k2=>h (by have:=(k2 k cj.out).1;rw [Hr.out] at this;exact this)
   have D9:(k:Int) < (n:Int):=by omega
   clear A0 ho X2 B2;go_upto_region 4 with fail;clear dz cr hg aq D9
   go_cut [40] from 12 to 39 (fun v W=>∃ b:Bool,v = .bool b/\Hid (iO b (aM r)/\Below w2.heap.size w2 W))
   case first =>
    as_aux_lemma =>
     have c0:=dN.out.sk;have l1:=zi dN.out.past;by_cases h0:r.s.size=0
     ·have e0:=K.jw r.s h0
      have HR:Hid (fd r.s=true):=by show _=_;unfold fd;rw [decide_eq_true h0,Bool.true_or]
      clear h0;go_wp2_with fail;clear c0 l1;refine (jf r.p _ HO.out.1).mono ?_;rintro e w4 ⟨x,rfl,hx,b4⟩;have aR:=hide b4;have eC:=hide (dN.out.below b4);have rf:=hide (HO.out.below b4);have sY:Hid (fd r.s=true):=HR.out;clear b4
      cases x with
      | false =>
       have HE:Hid (iO true (aM r)/\Below w2.heap.size w2 w4):=⟨⟨fun h=>(by cases h),fun h=>by have:=hx.out.2 h.2.1;cases this⟩,aR.out⟩;clear hx;go_wp2_with fail;go_meet;exact ⟨true,rfl,HE.out⟩
      | true =>
       have HI:Hid (af r.p.P):=hx.out.1 rfl;clear hx;have pW:r.p.P.vec.length=r.p.vn:=rf.out.1.vec.1;have fD:r.p.P.cloud.length=r.p.cn:=rf.out.1.cloud.len;have v0:w4.cell? ⟨g,1,none⟩=some (.slice r.p.vo r.p.vn r.p.vc):=eC.out.c1;have v1:w4.cell? ⟨g,2,none⟩=some (.slice r.p.co r.p.cn r.p.cc):=eC.out.c2;by_cases h1:r.p.vn=0
       ·have oO:((r.p.vn:Int) == 0)=true:=by simp [h1]
        by_cases h2:r.p.cn=0
        ·have rj:((r.p.cn:Int) == 0)=true:=by simp [h2]
         have HE:Hid (iO true (aM r)/\Below w2.heap.size w2 w4):=⟨⟨fun h=>(by cases h),fun h=>absurd ((gC HI.out).2 ⟨by omega,by omega⟩) h.2.2⟩,aR.out⟩;clear h1 h2 pW fD;go_wp2_with fail;go_meet;exact ⟨true,rfl,HE.out⟩
        ·have rj:((r.p.cn:Int) == 0)=false:=by simp [h2]
         have HE:Hid (iO false (aM r)/\Below w2.heap.size w2 w4):=⟨⟨fun _=>⟨sY.out,HI.out,fun h=>by have:=(gC HI.out).1 h;omega⟩,fun _=>rfl⟩,aR.out⟩;clear h1 h2 pW fD;go_wp2_with fail;go_meet;exact ⟨false,rfl,HE.out⟩
       ·have oO:((r.p.vn:Int) == 0)=false:=by simp [h1]
        have HE:Hid (iO false (aM r)/\Below w2.heap.size w2 w4):=⟨⟨fun _=>⟨sY.out,HI.out,fun h=>by have:=(gC HI.out).1 h;omega⟩,fun _=>rfl⟩,aR.out⟩;clear h1 pW fD;go_wp2_with fail;go_meet;exact ⟨false,rfl,HE.out⟩
     ·have e0:=K.ks r.s h0
      have HR:Hid (fd r.s=K.eS r.s.data.toList):=by show _=_;unfold fd;rw [decide_eq_false h0,Bool.false_or]
      clear h0;go_wp2_with fail;refine (K.vO r.s _ HO.out.2).mono ?_;rintro e w3 ⟨rfl,oZ⟩;have nW:=oZ.symm;clear oZ;subst nW
      cases hgd:K.eS r.s.data.toList with
      | false =>
       have HE:Hid (iO true (aM r)/\Below w2.heap.size w2 w2):=⟨⟨fun h=>(by cases h),fun h=>by have:=h.1;rw [HR.out,hgd] at this;cases this⟩,Below.refl _ _⟩;clear hgd;go_wp2_with fail;go_meet;exact ⟨true,rfl,HE.out⟩
      | true =>
       rw [hgd] at HR;clear hgd;go_wp2_with fail;clear c0 l1;refine (jf r.p _ HO.out.1).mono ?_;rintro e w4 ⟨x,rfl,hx,b4⟩;have aR:=hide b4;have eC:=hide (dN.out.below b4);have rf:=hide (HO.out.below b4);have sY:Hid (fd r.s=true):=HR.out;clear b4
       cases x with
       | false =>
        have HE:Hid (iO true (aM r)/\Below w2.heap.size w2 w4):=⟨⟨fun h=>(by cases h),fun h=>by have:=hx.out.2 h.2.1;cases this⟩,aR.out⟩;clear hx;go_wp2_with fail;go_meet;exact ⟨true,rfl,HE.out⟩
       | true =>
        have HI:Hid (af r.p.P):=hx.out.1 rfl;clear hx;have pW:r.p.P.vec.length=r.p.vn:=rf.out.1.vec.1;have fD:r.p.P.cloud.length=r.p.cn:=rf.out.1.cloud.len;have v0:w4.cell? ⟨g,1,none⟩=some (.slice r.p.vo r.p.vn r.p.vc):=eC.out.c1;have v1:w4.cell? ⟨g,2,none⟩=some (.slice r.p.co r.p.cn r.p.cc):=eC.out.c2;by_cases h1:r.p.vn=0
        ·have oO:((r.p.vn:Int) == 0)=true:=by simp [h1]
         by_cases h2:r.p.cn=0
         ·have rj:((r.p.cn:Int) == 0)=true:=by simp [h2]
          have HE:Hid (iO true (aM r)/\Below w2.heap.size w2 w4):=⟨⟨fun h=>(by cases h),fun h=>absurd ((gC HI.out).2 ⟨by omega,by omega⟩) h.2.2⟩,aR.out⟩;clear h1 h2 pW fD;go_wp2_with fail;go_meet;exact ⟨true,rfl,HE.out⟩
         ·have rj:((r.p.cn:Int) == 0)=false:=by simp [h2]
          have HE:Hid (iO false (aM r)/\Below w2.heap.size w2 w4):=⟨⟨fun _=>⟨sY.out,HI.out,fun h=>by have:=(gC HI.out).1 h;omega⟩,fun _=>rfl⟩,aR.out⟩;clear h1 h2 pW fD;go_wp2_with fail;go_meet;exact ⟨false,rfl,HE.out⟩
        ·have oO:((r.p.vn:Int) == 0)=false:=by simp [h1]
         have HE:Hid (iO false (aM r)/\Below w2.heap.size w2 w4):=⟨⟨fun _=>⟨sY.out,HI.out,fun h=>by have:=(gC HI.out).1 h;omega⟩,fun _=>rfl⟩,aR.out⟩;clear h1 pW fD;go_wp2_with fail;go_meet;exact ⟨false,rfl,HE.out⟩
   case rest =>
   obtain ⟨b,rfl,HC⟩:=hcut;have eK:=wTr cd HC.out.2
   cases b with
   | true =>
    have HF:Hid (dr w wc (.returned (.bool false)) (OkR L n)):=⟨false,rfl,BIf.no (lE.out (fun h=>by have:=HC.out.1.2 h;cases this)),eK.out⟩;go_wp2_with fail;go_ret;exact HF.out
   | false =>
   have EN:Hid (aM r):=HC.out.1.1 rfl;have J3:=hide (dN.out.below HC.out.2);have KH:=hide (HO.out.below HC.out.2);have aw:Hid (∀ W,Below wc.heap.size wc W -> W.cell? ⟨g,0,none⟩=some (.string r.s)/\(ldP (.pointer (some ⟨g,1,none⟩))).run Tryz.prog W = .ok (PV r.p) W):=fun W hW=>⟨(J3.out.below hW).sk,zi (J3.out.below hW).past⟩;clear dN HO HC cd;by_cases iA:k=0
   ·have E3:=hide iA;have k1:decide ((0:Int) < (k:Int))=false:=decide_eq_false (by omega);have k2:decide (0 < k)=false:=decide_eq_false (by omega);clear iA;go_upto_region 6 with fail;refine wp_region_held_drew (S:=fun W=>W.cell? ⟨g,0,none⟩=some (.string r.s)/\(ldP (.pointer (some ⟨g,1,none⟩))).run Tryz.prog W = .ok (PV r.p) W) (by kernel_rfl) (aw.out _ (zd wc)) (fun hHeld=>?_);refine wU 0 ?_;refine wU 1 ?_;refine wU 2 ?_;refine wV 3 ?_;refine wV 4 ?_;refine wV 5 ?_;refine wV 6 ?_;refine wV 7 ?_;refine wV 8 ?_;refine wV 9 ?_;refine wV 10 ?_;refine wV 11 ?_;refine wV 12 ?_;refine wV 13 ?_;refine wV 14 ?_;refine wV 15 ?_;refine wV 16 ?_;refine wV 17 ?_;refine wV 18 ?_;refine wV 19 ?_;refine wV 20 ?_;refine wV 21 ?_;refine wV 22 ?_;refine wV 23 ?_;refine wV 24 ?_;refine wV 25 ?_;refine wV 26 ?_;refine wV 27 ?_;refine wV 28 ?_
    refine wV 29 ?_;refine wV 30 ?_;refine wV 31 ?_;refine wV 32 ?_;refine wV 33 ?_;refine wV 34 ?_;refine wU 35 ?_;refine wD ?_ _;clear hHeld;have uB:Hid (OkR L (k+1)):=HK.out.1.snoc (by rw [Hr.out];exact EN.out) (fun h=>absurd h (by have:=E3.out;omega));go_wp2_with fail;go_roundw
    case rel=>exact ⟨k+1,cj.out,by go_num,uB.out,eK.out.trans ((zd wc).mono eK.out.size)⟩
    case measure=>simp [intOf];have:=cj.out;omega
   ·obtain ⟨jj,Hj⟩:∃ jj,Hid (k=jj+1):=⟨k - 1,(show k=k - 1+1 by omega)⟩
    have hz:IntKind.i64.wrap ((k:Int) - 1)=(jj:Int):=by rw [IntKind.wrap_i64];have:=Hj.out;omega
    have iR:jj < n:=by have:=Hj.out;omega
    have k1:decide ((0:Int) < (k:Int))=true:=decide_eq_true (by omega);have k2:decide (0 < k)=true:=decide_eq_true (by omega);obtain ⟨ad2,e2,A2⟩:=(HS.out.below eK.out).at jj iR;obtain rfl:=Option.some.inj e2;have BB:=hide ((HS.out.below eK.out).okAt jj iR);obtain ⟨q,Hq⟩:∃ q,Hid (L.getD jj rc0=q):=⟨_,rfl⟩;rw [Hq.out] at A2 BB;rw [Addr.add_lit] at A2;have Kp:=hide A2
    have Jg:Hid (aM q):=by show aM q;rw [<- Hq.out];exact (HK.out.1 jj (by have:=Hj.out;omega)).1
    have ts:Hid (∀ W,Below wc.heap.size wc W -> W.cell? ⟨b1,o1+jj * 3,none⟩=some (.string q.s)/\(ldP (.pointer (some ⟨b1,o1+jj * 3+1,none⟩))).run Tryz.prog W = .ok (PV q.p) W):=fun W hW=>⟨(Kp.out.on hW).flat.1,zi (Kp.out.on hW).flat.2⟩;have fi:=hide (zfY Jg.out.2.1 EN.out.2.1);have mc:Hid (LtR q r -> OkR L (k+1)):=fun h=>HK.out.1.snoc (by rw [Hr.out];exact EN.out) (fun _=>by rw [show k - 1=jj by have:=Hj.out;omega,Hr.out,Hq.out];exact h)
    have Dd:Hid (¬ LtR q r -> ¬ OkR L n):=fun h h2=>h (by
     have:=(h2 k cj.out).2 (by have:=Hj.out;omega);rw [show k - 1=jj by have:=Hj.out;omega,Hr.out,Hq.out] at this
     exact this)
    have sf1:=(bE q.s r.s).1;have sf2:=(bE q.s r.s).2;have sr:=y6.rng q.s r.s;have fu:=hide sf1;have fW:=hide sf2;clear A2 iA sf1 sf2;rcases sr with h | h | h
    ·have f1:Op.bytesLess q.s.toList r.s.toList=true:=by rw [fu.out,h];rfl
     have f2:(q.s.toList == r.s.toList)=false:=by rw [fW.out,h];rfl
     have uB:=hide (mc.out (fi.out.2 (.inl (by omega))));clear h;go_upto_region 6 with fail;refine wp_region_held_drew (S:=fun W=>(W.cell? ⟨g,0,none⟩=some (.string r.s)/\(ldP (.pointer (some ⟨g,1,none⟩))).run Tryz.prog W = .ok (PV r.p) W)/\W.cell? ⟨b1,o1+jj * 3,none⟩=some (.string q.s)/\(ldP (.pointer (some ⟨b1,o1+jj * 3+1,none⟩))).run Tryz.prog W = .ok (PV q.p) W) (by kernel_rfl) (⟨aw.out _ (zd wc),ts.out _ (zd wc)⟩) (fun hHeld=>?_);refine wU 0 ?_;refine wU 1 ?_;refine wU 2 ?_;refine wU 3 ?_;refine wU 4 ?_;refine wU 5 ?_;refine wU 6 ?_;refine wU 7 ?_;refine wU 8 ?_;refine wU 9 ?_;refine wU 10 ?_;refine wU 11 ?_;refine wU 12 ?_;refine wU 13 ?_;refine wU 14 ?_;refine wU 15 ?_;refine wU 16 ?_;refine wU 17 ?_;refine wU 18 ?_;refine wU 19 ?_;refine wU 20 ?_;refine wU 21 ?_;refine wU 22 ?_;refine wV 23 ?_;refine wV 24 ?_
     refine wV 25 ?_;refine wV 26 ?_;refine wV 27 ?_;refine wV 28 ?_;refine wV 29 ?_;refine wV 30 ?_;refine wV 31 ?_;refine wV 32 ?_;refine wU 33 ?_;refine wU 34 ?_;refine wU 35 ?_;refine wD ?_ _;clear hHeld;go_wp2_with fail;go_roundw
     case rel=>exact ⟨k+1,cj.out,by go_num,uB.out,eK.out.trans ((zd wc).mono eK.out.size)⟩
     case measure=>simp [intOf];have:=cj.out;omega
    ·have f1:Op.bytesLess q.s.toList r.s.toList=false:=by rw [fu.out,h];rfl
     have f2:(q.s.toList == r.s.toList)=true:=by rw [fW.out,h];rfl
     have Kb:Hid (LtR q r↔dJ q.p.P r.p.P < 0):=by show _↔_;rw [fi.out,h];simp
     clear h;go_upto_region 6 with fail;refine wp_region_held_drew (S:=fun W=>(W.cell? ⟨g,0,none⟩=some (.string r.s)/\(ldP (.pointer (some ⟨g,1,none⟩))).run Tryz.prog W = .ok (PV r.p) W)/\W.cell? ⟨b1,o1+jj * 3,none⟩=some (.string q.s)/\(ldP (.pointer (some ⟨b1,o1+jj * 3+1,none⟩))).run Tryz.prog W = .ok (PV q.p) W) (by kernel_rfl) (⟨aw.out _ (zd wc),ts.out _ (zd wc)⟩) (fun hHeld=>?_);refine wU 0 ?_;refine wU 1 ?_;refine wU 2 ?_;refine wU 3 ?_;refine wU 4 ?_;refine wU 5 ?_;refine wU 6 ?_;refine wU 7 ?_;refine wU 8 ?_;refine wU 9 ?_;refine wU 10 ?_;refine wU 11 ?_;refine wU 12 ?_;refine wU 13 ?_;refine wU 14 ?_;refine wU 15 ?_;refine wU 16 ?_;refine wU 17 ?_;refine wU 18 ?_;refine wU 19 ?_;refine wU 20 ?_;refine wU 21 ?_;refine wU 22 ?_;refine wU 23 ?_;refine wU 24 ?_;refine wU 25 ?_;refine wU 26 ?_;refine wU 27 ?_
     refine wU 28 ?_;refine wU 29 ?_;refine wU 30 ?_;refine wR 31 fun K hK=>?_;go_simp;go_wp2_with fail;refine (wA q.p r.p _ (BB.out.1.below (zd wc)) (KH.out.1.below (zd wc)) Jg.out.2.1 EN.out.2.1).mono ?_;rintro e w5 ⟨z,rfl,hz,b5⟩;have ee:=hide ((zd wc).trans b5);have Jy:=wTr eK ee.out;have HZ:=hide hz;refine hK.out _ _ ⟨aw.out _ ee.out,ts.out _ ee.out⟩ (fun hHeld=>?_);clear hK K b5 hz;by_cases dn:(0:Int) <= z
     ·have As:decide (0 <= z)=true:=decide_eq_true dn;have HF:Hid (dr w w5 (.returned (.bool false)) (OkR L n)):=⟨false,rfl,BIf.no (Dd.out (fun k3=>by have h1:=Kb.out.1 k3;have h2:z=_:=HZ.out;omega)),Jy.out⟩;clear dn;refine wU 32 ?_;refine wU 33 ?_;refine wU 34 ?_;refine wU 35 ?_;refine wD ?_ _;clear hHeld;go_wp2_with fail;go_ret;exact HF.out
     ·have As:decide (0 <= z)=false:=decide_eq_false dn;have uB:=hide (mc.out (Kb.out.2 (by have h2:z=_:=HZ.out;omega)));clear dn;refine wU 32 ?_;refine wU 33 ?_;refine wU 34 ?_;refine wU 35 ?_;refine wD ?_ _;clear hHeld;go_wp2_with fail;go_roundw
      case rel=>exact ⟨k+1,cj.out,by go_num,uB.out,Jy.out⟩
      case measure=>simp [intOf];have:=cj.out;omega
    ·have f1:Op.bytesLess q.s.toList r.s.toList=false:=by rw [fu.out,h];rfl
     have f2:(q.s.toList == r.s.toList)=false:=by rw [fW.out,h];rfl
     have HF:Hid (dr w wc.drew (.returned (.bool false)) (OkR L n)):=⟨false,rfl,BIf.no (Dd.out (fun k3=>by rcases fi.out.1 k3 with q1 | q1 <;> omega)),eK.out.trans ((zd wc).mono eK.out.size)⟩;clear h;go_upto_region 6 with fail;refine wp_region_held_drew (S:=fun W=>(W.cell? ⟨g,0,none⟩=some (.string r.s)/\(ldP (.pointer (some ⟨g,1,none⟩))).run Tryz.prog W = .ok (PV r.p) W)/\W.cell? ⟨b1,o1+jj * 3,none⟩=some (.string q.s)/\(ldP (.pointer (some ⟨b1,o1+jj * 3+1,none⟩))).run Tryz.prog W = .ok (PV q.p) W) (by kernel_rfl) (⟨aw.out _ (zd wc),ts.out _ (zd wc)⟩) (fun hHeld=>?_);refine wU 0 ?_;refine wU 1 ?_;refine wU 2 ?_;refine wU 3 ?_;refine wU 4 ?_;refine wU 5 ?_;refine wU 6 ?_;refine wU 7 ?_;refine wU 8 ?_;refine wU 9 ?_;refine wU 10 ?_;refine wU 11 ?_;refine wU 12 ?_;refine wV 13 ?_;refine wV 14 ?_;refine wV 15 ?_
     refine wV 16 ?_;refine wV 17 ?_;refine wV 18 ?_;refine wV 19 ?_;refine wV 20 ?_;refine wV 21 ?_;refine wV 22 ?_;refine wV 23 ?_;refine wV 24 ?_;refine wV 25 ?_;refine wV 26 ?_;refine wV 27 ?_;refine wV 28 ?_;refine wV 29 ?_;refine wV 30 ?_;refine wV 31 ?_;refine wV 32 ?_;refine wV 33 ?_;refine wU 34 ?_;refine wU 35 ?_;refine wD ?_ _;clear hHeld;go_wp2_with fail;go_ret;exact HF.out
  ·obtain rfl:n=k:=by omega
   have HF:Hid (dr w wr (.returned (.bool true)) (OkR L n)):=⟨true,rfl,BIf.yes HK.out.1,HK.out.2⟩;go_wp2_with fail;go_ret;exact HF.out
theorem jV (ao:Option Addr) (n cap:Nat) (L:List K.En) (w:World) (hS:K.aF w ao n cap L):Calls Tryz.prog 28 #[.slice ao n cap] w fun e w'=>e = .returned (.bool (K.okN L n))/\Below w.heap.size w w':=by
 have h:=K.yZ ao n cap L w hS;rw [hS.1] at h;exact h
attribute [local go_sem ↓] zM zL
attribute [local go_sem] zj zr
theorem kS (f:Fc) (w:World) (hF:a8 w f):Calls Tryz.prog 6 #[FaV (mkF f)] w fun e w'=>dr w w' e (aB f):=by
 have HX:=hide (zP w (mkF f));have az:=hide (ze w (.cells (FaC (mkF f)) 29));have HS:=hide (hF.below az.out);clear hF;obtain ⟨wk,cq⟩:∃ wk,w.alloc (.cells (FaC (mkF f)) 29)=wk:=⟨_,rfl⟩;obtain ⟨G,hG⟩:∃ G,w.heap.size=G:=⟨_,rfl⟩;rw [cq] at HX az HS;rw [hG] at HX;obtain ⟨c0,c3⟩:=HX.out.cs;go_enter Tryz.func6,Tryz.ntmps6;go_wp2_with fail;clear cq hG;refine (jV f.ao f.an f.ac f.es _ HS.out.es).mono ?_;rintro e w2 ⟨rfl,b2⟩;have cd:=wTr az b2;have dN:=hide (HX.out.below b2);have eM:=hide (HS.out.below b2);clear b2 c0 c3 HX HS az
 cases hc:K.okN f.es f.an with
 | false =>
  have HN:Hid (¬ aB f):=fun h=>by have h1:=h.1;rw [hc] at h1;cases h1
  clear hc;go_wp2_with fail;go_ret;exact ⟨_,rfl,BIf.no HN.out,cd.out⟩
 | true =>
  have HC:=hide hc;have lp:=zi dN.out.past;clear hc;go_wp2_with fail;clear lp;refine (jf f.p _ eM.out.p).mono ?_;rintro e w3 ⟨b,rfl,hb,b3⟩;have aN:=wTr cd b3;have ex:=hide (dN.out.below b3);have rD:=hide (eM.out.below b3);clear b3 dN eM cd
  cases b with
  | false =>
   have HN:Hid (¬ aB f):=fun h=>(by have:=hb.out.2 h.2.1;cases this);clear hb;go_wp2_with fail;go_ret;exact ⟨_,rfl,BIf.no HN.out,aN.out⟩
  | true =>
   have HI:Hid (af f.p.P):=hb.out.1 rfl;have c3:=ex.out.cs.2;clear hb;go_wp2_with fail;clear c3;refine (jU f.ro f.rn f.rc f.rs _ rD.out.rs).mono ?_;rintro e w4 ⟨k,rfl,hk,b4⟩;have aR:=wTr aN b4;have HF:Hid (dr w w4 (.returned (.bool k)) (aB f)):=⟨k,rfl,⟨fun h=>⟨HC.out,HI.out,hk.out.1 h⟩,fun h=>hk.out.2 h.2.2⟩,aR.out⟩;clear hk b4;go_wp2_with fail;go_ret;exact HF.out
end Go.Proofs.YtcilfelgpmfehaaGreat
