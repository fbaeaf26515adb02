/- YGj -/
import Derived.Test.YtcilfelgpmfehaaGreatBj43
set_option maxRecDepth 100000
set_option maxHeartbeats 6400000
namespace Go.Proofs.YtcilfelgpmfehaaGreat
open Go.RowKit
attribute [local go_sem ↓] zl zk zK zJ zR zQ qg qf K.zu K.zt
attribute [local go_sem] zf zh zj zr zy zH zT K.zC K.zs K.zB
theorem Id {R:List Rc} {e:K.En} (h:cN R e=true) {r:Rc} (hr:r∈R):iN r e=false:=by
 unfold cN at h;rw [Bool.not_eq_true',List.any_eq_false] at h;simpa using h r hr
theorem vD (s:Fc) (w:World) (hF:a8 w s) (hS:aJ s):Calls Tryz.prog 11 #[FaV (mkF s)] w fun e w'=>e = .returned (.bool true)/\Below w.heap.size w w':=by
 have b1:=ze w (.cells (FaC (mkF s)) 38);have X1:=qD w (mkF s);obtain ⟨wk,cq⟩:∃ w1,w.alloc (.cells (FaC (mkF s)) 38)=w1:=⟨_,rfl⟩;rw [cq] at b1 X1;obtain ⟨G,dC⟩:∃ G,w.heap.size=G:=⟨_,rfl⟩;rw [dC] at X1;have HX:=hide X1;have az:=hide b1;have HF:=hide (hF.below b1);have HS:=hide hS;have fE:Hid (s.es.length=s.an/\s.rs.length=s.rn/\s.an <= 3518437208883/\s.rn <= 2199023255552):=⟨hF.es.1,hF.rs.len,hF.es.2.2.2.2,hF.rs.big⟩;have KV:Hid (K.okN s.es s.an=true):=hS.1.1;clear hF hS b1 X1;have g1:=fE.out.2.2.1;have g2:=fE.out.2.2.2;obtain ⟨c0,c3⟩:=HX.out.cs;go_enter Tryz.func11,Tryz.ntmps11;go_wp2_with fail;clear cq dC c0 c3;refine (jV s.ao s.an s.ac s.es _ HF.out.es).mono ?_;rintro e w3 ⟨rfl,b3⟩;rw [KV.out];have aN:=hide b3;have lp:=zi (HX.out.below b3).past;clear b3;go_wp2_with fail
 clear lp;refine (jf s.p _ (HF.out.below aN.out).p).mono ?_;rintro e w4 ⟨x,rfl,hx,b4⟩;obtain rfl:x=true:=hx.out.2 HS.out.1.2.1;have aR:=wTr aN b4;have c3:=(HX.out.below aR.out).cs.2;clear hx b4;go_wp2_with fail;clear c3;refine (jU s.ro s.rn s.rc s.rs _ (HF.out.below aR.out).rs).mono ?_;rintro e w5 ⟨x,rfl,hx,b5⟩;obtain rfl:x=true:=hx.out.2 HS.out.1.2.2;have ee:=wTr aR b5;have c0:=(HX.out.below ee.out).cs.1;clear hx b5;go_wp2_with fail;clear c0;go_loopw [28] (fun i wr=>∃ k:Nat,k <= s.an/\i = .int .i64 k/\Hid (Below wk.heap.size wk wr)) (fun i _=>s.an - (intOf i).toNat)
 case atStart=>exact ⟨0,Nat.zero_le _,rfl,ee.out⟩
 case round =>
  obtain ⟨k,hk,rfl,HI⟩:=hrel
  rename World=>wr
  by_cases aq:k < s.an
  ·obtain ⟨ad,fl,A0⟩:=(HF.out.below HI.out).es.at k aq;rw [fl]
   have hm:s.es.getD k K.en0∈s.es:=by rw [List.getD_eq_getElem?_getD,List.getElem?_eq_getElem (by rw [fE.out.1];exact aq)];exact List.getElem_mem _
   obtain ⟨e,He⟩:∃ e,Hid (s.es.getD k K.en0=e):=⟨_,rfl⟩;rw [He.out] at A0 hm;have HM:=hide hm;have dz:=K.zX A0;obtain ⟨ge,sZ⟩:∃ g,wr.heap.size=g:=⟨_,rfl⟩;obtain ⟨w6,cr,X6,b6,-⟩:=K.gE wr e ge sZ;have ui:=hide X6;have gJ:=wTr HI b6;have lp:=zi (HX.out.below gJ.out).past;have ld:(ldD (.pointer (some ⟨ge,0,none⟩))).run Tryz.prog w6 = .ok (RV (am e)) w6:=qw (r:=am e) ⟨X6.at.c0,X6.at.c1⟩;have cj:=hide aq
   have D9:(k:Int) < (s.an:Int):=by omega
   clear A0 X6 b6 hm fl;go_wp2_with fail;clear dz cr sZ lp ld;refine (j0 s.p (am e) _ (HF.out.below gJ.out).p).mono ?_;rintro x w7 ⟨b,rfl,hb,b7⟩;obtain rfl:b=true:=hb.out.2 ((qk _ _).1 (HS.out.2.1 e HM.out));have cM:=wTr gJ b7;have mn:=hide (ui.out.below b7);have c3:=(HX.out.below cM.out).cs.2;clear hb b7;go_wp2_with fail;clear c3;go_loopw [41] (fun i wr=>∃ j:Nat,j <= s.rn/\i = .int .i64 j/\Hid (Below w7.heap.size w7 wr)) (fun i _=>s.rn - (intOf i).toNat)
   case atStart=>exact ⟨0,Nat.zero_le _,rfl,Below.refl _ _⟩
   case round =>
    obtain ⟨j,hj,rfl,HJ⟩:=hrel
    rename World=>w8
    have iz:=wTr cM HJ.out;by_cases eY:j < s.rn
    ·obtain ⟨bd,Bg,B0⟩:=(HF.out.below iz.out).rs.at j eY;rw [Bg];have ho:=(HF.out.below iz.out).rs.okAt j eY;have rl:s.rs.getD j rc0∈s.rs:=jZ (by rw [fE.out.2.1];exact eY);obtain ⟨r,Hr⟩:∃ r,Hid (s.rs.getD j rc0=r):=⟨_,rfl⟩;rw [Hr.out] at B0 ho rl;have Dq:=Id (HS.out.2.2.2 e HM.out) rl;have Jm:=hide Dq;have dz:=zI B0;obtain ⟨g,hg⟩:∃ g,w8.heap.size=g:=⟨_,rfl⟩;obtain ⟨w9,cr,X9,b9,-⟩:=dY w8 (mkR r) g hg;have eN:=wTr HJ b9;have HO:=hide (ho.below b9);have s0:=X9.sk;have lq:=zi X9.past;have X8:=mn.out.below eN.out
     have s2:w9.cell? ⟨ge,2,none⟩=some (.string e.sku):=by have h:=X8.at.c2;simpa [Addr.add] using h
     have ld:(ldD (.pointer (some ⟨ge,0,none⟩))).run Tryz.prog w9 = .ok (RV (am e)) w9:=qw (r:=am e) ⟨X8.at.c0,X8.at.c1⟩;have mo:=hide eY
     have p5:(j:Int) < (s.rn:Int):=by omega
     clear B0 ho rl X9 b9 X8 Bg Dq;by_cases h0:r.s.size=0
     ·have e0:=K.jw r.s h0
      have HD:Hid (inB r.p.P e=false):=by have h:=Jm.out;unfold iN at h;rw [decide_eq_true h0,Bool.true_or,Bool.true_and] at h;exact h
      clear h0;go_wp2_with fail;clear dz cr hg;clear s0 lq s2 ld;refine (j0 r.p (am e) _ HO.out.1).mono ?_;rintro x w10 ⟨b,rfl,hb,b10⟩
      obtain rfl:b=false:=by
       cases b with
       | false=>rfl
       | true=>have h:=(qk r.p.P e).2 (hb.out.1 rfl);rw [HD.out] at h;cases h
      have o7:=wTr eN b10;clear hb b10;go_wp2_with fail;go_roundw
      case rel=>exact ⟨j+1,mo.out,by go_num,o7.out⟩
      case measure=>simp [intOf];have:=mo.out;omega
     ·have e0:=K.ks r.s h0;by_cases h1:r.s=e.sku
      ·have e1:(r.s.toList == e.sku.toList)=true:=by rw [h1];simp
       have HD:Hid (inB r.p.P e=false):=by have h:=Jm.out;unfold iN at h;rw [e1,Bool.or_true,Bool.true_and] at h;exact h
       clear h0 h1;go_wp2_with fail;clear dz cr hg;clear s0 lq s2 ld;refine (j0 r.p (am e) _ HO.out.1).mono ?_;rintro x w10 ⟨b,rfl,hb,b10⟩
       obtain rfl:b=false:=by
        cases b with
        | false=>rfl
        | true=>have h:=(qk r.p.P e).2 (hb.out.1 rfl);rw [HD.out] at h;cases h
       have o7:=wTr eN b10;clear hb b10;go_wp2_with fail;go_roundw
       case rel=>exact ⟨j+1,mo.out,by go_num,o7.out⟩
       case measure=>simp [intOf];have:=mo.out;omega
      ·have e1:(r.s.toList == e.sku.toList)=false:=by rw [beq_eq_false_iff_ne];exact fun h=>h1 (zeu h)
       clear h0 h1;go_wp2_with fail;go_roundw
       case rel=>exact ⟨j+1,mo.out,by go_num,eN.out⟩
       case measure=>simp [intOf];have:=mo.out;omega
    ·have p5:¬ (j:Int) < (s.rn:Int):=by omega
     go_wp2_with fail;go_roundw
     case rel=>exact ⟨k+1,cj.out,by go_num,iz.out⟩
     case measure=>simp [intOf];have:=cj.out;omega
  ·have D9:¬ (k:Int) < (s.an:Int):=by omega
   have c3:=(HX.out.below HI.out).cs.2;go_wp2_with fail;clear c3;go_loopw [67] (fun i wr=>∃ j:Nat,j <= s.rn/\i = .int .i64 j/\Hid (Below wk.heap.size wk wr)) (fun i _=>s.rn - (intOf i).toNat)
   case atStart=>exact ⟨0,Nat.zero_le _,rfl,HI.out⟩
   case round =>
    obtain ⟨j,hj,rfl,HJ⟩:=hrel
    rename World=>w8
    by_cases eY:j < s.rn
    ·obtain ⟨bd,Bg,B0⟩:=(HF.out.below HJ.out).rs.at j eY;rw [Bg];have ho:=(HF.out.below HJ.out).rs.okAt j eY;have rl:s.rs.getD j rc0∈s.rs:=jZ (by rw [fE.out.2.1];exact eY);have iE:=(HS.out.1.2.2 j eY).1;obtain ⟨r,Hr⟩:∃ r,Hid (s.rs.getD j rc0=r):=⟨_,rfl⟩;rw [Hr.out] at B0 ho rl iE;have HW:Hid (¬ wiP r.p.P s.p.P/\af r.p.P):=⟨HS.out.2.2.1 r rl,iE.2.1⟩;have dz:=zI B0;obtain ⟨g,hg⟩:∃ g,w8.heap.size=g:=⟨_,rfl⟩;obtain ⟨w9,cr,X9,b9,-⟩:=dY w8 (mkR r) g hg;have eN:=wTr HJ b9;have HO:=hide (ho.below b9);have lq:=zi X9.past;have lp:=zi (HX.out.below eN.out).past;have mo:=hide eY
     have p5:(j:Int) < (s.rn:Int):=by omega
     clear B0 ho rl iE X9 b9 Bg;go_wp2_with fail;clear dz cr hg lq lp;refine (zaK r.p s.p _ HO.out.1 (HF.out.below eN.out).p HW.out.2 HS.out.1.2.1).mono ?_;rintro x w10 ⟨b,rfl,hb,b10⟩
     obtain rfl:b=false:=by
      cases b with
      | false=>rfl
      | true=>exact absurd (hb.out.1 rfl) HW.out.1
     have o7:=wTr eN b10;clear hb b10;go_wp2_with fail;go_roundw
     case rel=>exact ⟨j+1,mo.out,by go_num,o7.out⟩
     case measure=>simp [intOf];have:=mo.out;omega
    ·have p5:¬ (j:Int) < (s.rn:Int):=by omega
     have HE:=wTr az HJ.out;go_wp2_with fail;go_ret;exact ⟨rfl,HE.out⟩
end Go.Proofs.YtcilfelgpmfehaaGreat
