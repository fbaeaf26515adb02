/- SZb TJn LOnr LRu TRj SXx SZc -/
import Derived.Test.YtaphmhbmhcahaaaGreatTk
import Derived.Test.YtaphmhbmhcahaaaGreatSj19
import Derived.Test.YtaphmhbmhcahaaaGreatSj31
import Derived.Test.YtaphmhbmhcahaaaGreatSj20
import Derived.Deep.CutRange
import Derived.Test.YtaphmhbmhcahaaaGreatSj07
import Derived.Test.YtaphmhbmhcahaaaGreatSj23
import Derived.Test.YtaphmhbmhcahaaaGreatSj32
import Derived.Test.YtaphmhbmhcahaaaGreatSj29
set_option maxRecDepth 100000
set_option maxHeartbeats 6400000
namespace Go.Proofs.YtaphmhbmhcahaaaGreat
section
open Go.RowKit
section
attribute [local go_sem ↓] ldP_eq stP_eq ldRe_eq stRe_eq
attribute [local go_sem] cells_ReV ReC_size zero_ReC
theorem order11_any (a b:Rc) (w:World) (hA:RcOk w a) (hB:RcOk w b):Calls Tryz.prog 106 #[ReV (mkR a),ReV (mkR b)] w fun e w'=>GivesK w w' e (CmpR a b):=by
 have b1:=below_new w (.cells (ReC (mkR a)) 80);have b2:=below_new (w.alloc (.cells (ReC (mkR a)) 80)) (.cells (ReC (mkR b)) 80);have X2:=ReBox_new (w.alloc (.cells (ReC (mkR a)) 80)) (mkR b);rw [World.size_alloc] at X2;have HXA:=hide ((ReBox_new w (mkR a)).below b2);have HXB:=hide X2;have HBK:=hide (b1.trans (b2.mono b1.size));have HSA:=hide (hA.1.below HBK.out);have HSB:=hide (hB.1.below HBK.out);clear b1 b2 X2 hA hB;obtain ⟨wk,hwk⟩:∃ wk,(w.alloc (.cells (ReC (mkR a)) 80)).alloc (.cells (ReC (mkR b)) 80)=wk:=⟨_,rfl⟩;obtain ⟨G,hG⟩:∃ G,w.heap.size=G:=⟨_,rfl⟩;rw [hwk] at HXA HXB HBK HSA HSB;rw [hG] at HXA HXB;have c1:=HXA.out.sk;have c2:=HXB.out.sk;have l1:=run_ldP HXA.out.past;have l2:=run_ldP HXB.out.past;have HF1:=hide (str_facts a.s b.s).1;have HF2:=hide (str_facts a.s b.s).2;have f4:cmpS a.s b.s = -1∨cmpS a.s b.s=0∨cmpS a.s b.s=1:=cb_rng _ _
 rcases f4 with h | h | h
 ·have HF:Hid (CmpR a b (-1)):=.inl ⟨by rw [h];decide,h.symm⟩
  have f1:Op.bytesLess a.s.toList b.s.toList=true:=by rw [HF1.out,h];rfl
  clear h;go_enter Tryz.func106,Tryz.ntmps106;go_wp2_with fail;go_ret;exact ⟨_,rfl,HF.out,HBK.out⟩
 ·have HZ:=hide h
  have f1:Op.bytesLess a.s.toList b.s.toList=false:=by rw [HF1.out,h];rfl
  have f2:(a.s.toList == b.s.toList)=true:=by rw [HF2.out,h];rfl
  clear h;go_enter Tryz.func106,Tryz.ntmps106;go_wp2_with fail;clear hwk;refine (refCompare_any a.p b.p _ HSA.out HSB.out).mono ?_;rintro e w2 ⟨k,rfl,hk,b2⟩;have HF:Hid (CmpR a b k/\Below w.heap.size w w2):=⟨.inr ⟨HZ.out,cmpV_of hk⟩,HBK.out.trans (b2.mono HBK.out.size)⟩;clear hk b2 l1 l2;go_wp2_with fail;go_ret;exact ⟨_,rfl,HF.out.1,HF.out.2⟩
 ·have HF:Hid (CmpR a b 1):=.inl ⟨by rw [h];decide,h.symm⟩
  have f1:Op.bytesLess a.s.toList b.s.toList=false:=by rw [HF1.out,h];rfl
  have f2:(a.s.toList == b.s.toList)=false:=by rw [HF2.out,h];rfl
  clear h;go_enter Tryz.func106,Tryz.ntmps106;go_wp2_with fail;go_ret;exact ⟨_,rfl,HF.out,HBK.out⟩
end
def RcG (w w':World) (x:Ending) (A B:List Rc):Prop:=∃ (h:Hs) (F:List Rc),x = .returned (HsV h)/\RcS w' h.o h.n h.c F/\Below w.heap.size w w'/\UnOf A B F/\h.n <= A.length+B.length
attribute [local go_sem ↓] ldP_eq stP_eq ldRe_eq stRe_eq
attribute [local go_sem] cells_ReV ReC_size zero_ReC
theorem refRecords11_any (ao bo:Option Addr) (na ca nb cb:Nat) (A B:List Rc) (w:World) (hA:RcS w ao na ca A) (hB:RcS w bo nb cb B) (oA:OkR A na) (oB:OkR B nb) (hnm:na+nb <= 2199023255551) :
  Calls Tryz.prog 62 #[.slice ao na ca,.slice bo nb cb] w fun x w'=>RcG w w' x A B:=by
 have HA:=hide hA;have HB:=hide hB;have HLA:Hid (A.length=na):=hA.len;have HLB:Hid (B.length=nb):=hB.len;have HFA:Hid ((∀ r∈A,RecOk r)/\Srt ck (plR A)):=okR_iff.1 (by rw [hA.len];exact oA);have HFB:Hid ((∀ r∈B,RecOk r)/\Srt ck (plR B)):=okR_iff.1 (by rw [hB.len];exact oB);have HN:=hide hnm
 have hbA:na <= 2199023255552:=by omega
 have hbB:nb <= 2199023255552:=by omega
 have HU0:Hid (UO w w A B 0 0 hs0 []):=⟨OwnRc.nil w,fun r hr=>(by cases hr),Mg.start HFA.out.2 HFB.out.2,Nat.zero_le _⟩;clear hA hB oA oB hnm;go_enter Tryz.func62,Tryz.ntmps62;go_wp2_with fail;go_loopw [5,6,7] (fun v vi vj wr=>UOv w A B na nb v vi vj wr) (fun _ vi vj _=>(na - (intOf vi).toNat)+(nb - (intOf vj).toNat))
 case atStart=>exact ⟨0,0,hs0,[],Nat.zero_le _,Nat.zero_le _,rfl,rfl,rfl,HU0.out⟩
 case round =>
  obtain ⟨i,j,h,D,hi,hj,rfl,rfl,rfl,HU⟩:=hrel
  rename World=>wr
  clear HU0;by_cases h1:i < na
  ·by_cases h2:j < nb
   ·have Hij:Hid (i < A.length∨j < B.length):=.inl (by rw [HLA.out];exact h1);obtain ⟨d1,hd1,Ax⟩:=(HA.out.below HU.out.own.below).at i h1;obtain ⟨d2,hd2,Ay⟩:=(HB.out.below HU.out.own.below).at j h2;have HKx:=hide ((HA.out.below HU.out.own.below).okAt i h1);have HKy:=hide ((HB.out.below HU.out.own.below).okAt j h2);have HAx:=hide Ax;have HAy:=hide Ay;clear Ax Ay;have Hok:Hid (RecOk (A.getD i rc0)/\RecOk (B.getD j rc0)):=⟨getOk HFA.out.1 (by rw [HLA.out];exact h1),getOk HFB.out.1 (by rw [HLB.out];exact h2)⟩;have Hij2:Hid (i < na/\j < nb):=⟨h1,h2⟩;subst hd1 hd2
    have e1:((i:Int) == (na:Int))=false:=by simp;omega
    have e2:((j:Int) == (nb:Int))=false:=by simp;omega
    have i1:(i:Int) < (na:Int):=by omega
    have i2:(j:Int) < (nb:Int):=by omega
    clear h1 h2;go_upto_region 9 with fail;refine wp_region_held_drew (S:=fun v=>(ldRe (.pointer (some (d1.add (i * 3))))).run Tryz.prog v = .ok (.agg (ReC (mkR (A.getD i rc0)))) v/\(ldRe (.pointer (some (d2.add (j * 3))))).run Tryz.prog v = .ok (.agg (ReC (mkR (B.getD j rc0)))) v) (by kernel_rfl) (⟨run_laRe (HAx.out.on (below_drew1 wr)),run_laRe (HAy.out.on (below_drew1 wr))⟩) (fun hHeld=>?_);refine wU 0 ?_;refine wU 1 ?_;refine wU 2 ?_;refine wU 3 ?_;refine wU 4 ?_;refine wU 5 ?_;refine wU 6 ?_;refine wU 7 ?_;refine wpAnyH_ready (rs:=[8]) (by kernel_rfl) (by simp) (.cons rfl (fun K hK=>?_) .nil);go_simp;go_wp2_with fail;refine (order11_any _ _ _ (HKx.out.below (below_drew1 wr)) (HKy.out.below (below_drew1 wr))).mono ?_;rintro e w4 ⟨z,rfl,hz,b4⟩;have hB4:Below wr.heap.size wr w4:=(below_drew1 wr).trans b4;have HB4:=hide hB4;refine hK.out _ _ (⟨run_laRe (HAx.out.on hB4),run_laRe (HAy.out.on hB4)⟩) (fun hHeld=>?_)
    clear hK K b4 hB4;refine wU 9 ?_;refine wpAnyH_done (by kernel_rfl) ?_ _;clear hHeld;have HUx:=hide (HU.out.later HB4.out);have HZ:Hid (ZOf A B i j A.length B.length z):=.inr (.inr ⟨by rw [HLA.out];exact Hij2.out.1,by rw [HLB.out];exact Hij2.out.2,cmpR_ck Hok.out.1.2.1 Hok.out.2.2.1 hz⟩);clear hz i1 i2 e1 e2 HKx HKy HAx HAy Hok HU HB4;by_cases hz0:z < 0
    ·have hz1:z <= 0:=by omega
     have hz2:¬ 0 <= z:=by omega
     obtain ⟨hq,hmg⟩:=zlt HUx.out.mg HZ.out hz0;obtain ⟨d3,hd3,Ax⟩:=(HA.out.below HUx.out.own.below).at i (by have:=HLA.out;have:=hq;omega);have hKx:=(HA.out.below HUx.out.own.below).okAt i (by have:=HLA.out;have:=hq;omega);have hold:=(HA.out.okAt i (by have:=HLA.out;have:=hq;omega)).1;have hrok:=getOk HFA.out.1 hq;obtain ⟨r,Hr⟩:∃ r,Hid (A.getD i rc0=r):=⟨_,rfl⟩;rw [Hr.out] at Ax hKx hold hrok hmg;obtain rfl:=Option.some.inj hd3;have hld:=run_laRe Ax;obtain ⟨gb,cb2,wb,hab,Ob,-⟩:=HUx.out.own.app r hKx (farH_of HUx.out.own hold) (by have:=HUx.out.num;have:=HN.out;have:=HLA.out;have:=HLB.out;have:=hq;omega);have HAb:Hid ((Builtin.append_ #[27,27] 27 #[.slice h.o h.n h.c,.slice (some ⟨w4.heap.size,0,none⟩) 1 1]).run Tryz.prog (w4.alloc (.cells #[.string r.s,.slice r.p.vo r.p.vn r.p.vc,.slice r.p.co r.p.cn r.p.cc] 80)) = .ok (.slice (some ⟨gb,0,none⟩) (h.n+1) cb2) wb):=hab
     have HNx:Hid (UO w wb A B (i+1) (j) ⟨some ⟨gb,0,none⟩,h.n+1,cb2⟩ (D++[r])):=⟨Ob,mem_snoc HUx.out.okd hrok,by rw [plR_sn];exact hmg,by show h.n+1 <= _;have:=HUx.out.num;omega⟩
     have hlq:i < na:=by have:=HLA.out;have:=HLB.out;omega
     have Hlt:=hide hlq;clear hab Ob hKx hold hrok hmg Ax hq;go_wp2_with (at_builtin;refine seq_appM rfl (.tmp 38) (.tmp 43) rfl rfl rfl HAb.out ?_);clear hld;go_roundw
     case rel=>exact ⟨i+1,j,⟨some ⟨gb,0,none⟩,h.n+1,cb2⟩,D++[r],by have:=Hlt.out;omega,hj,rfl,by simp,rfl,HNx.out⟩
     case measure=>simp [intOf];have:=Hlt.out;omega
    ·have hz9:0 <= z:=by omega
     clear hz0;by_cases hz0:0 < z
     ·have hz2:¬ z <= 0:=by omega
      have hz3:0 <= z:=by omega
      obtain ⟨hq,hmg⟩:=zgt HUx.out.mg HZ.out hz0 Hij.out;obtain ⟨d3,hd3,Ax⟩:=(HB.out.below HUx.out.own.below).at j (by have:=HLB.out;have:=hq;omega);have hKx:=(HB.out.below HUx.out.own.below).okAt j (by have:=HLB.out;have:=hq;omega);have hold:=(HB.out.okAt j (by have:=HLB.out;have:=hq;omega)).1;have hrok:=getOk HFB.out.1 hq;obtain ⟨r,Hr⟩:∃ r,Hid (B.getD j rc0=r):=⟨_,rfl⟩;rw [Hr.out] at Ax hKx hold hrok hmg;obtain rfl:=Option.some.inj hd3;have hld:=run_laRe Ax;obtain ⟨gb,cb2,wb,hab,Ob,-⟩:=HUx.out.own.app r hKx (farH_of HUx.out.own hold) (by have:=HUx.out.num;have:=HN.out;have:=HLA.out;have:=HLB.out;have:=hq;omega);have HAb:Hid ((Builtin.append_ #[27,27] 27 #[.slice h.o h.n h.c,.slice (some ⟨w4.heap.size,0,none⟩) 1 1]).run Tryz.prog (w4.alloc (.cells #[.string r.s,.slice r.p.vo r.p.vn r.p.vc,.slice r.p.co r.p.cn r.p.cc] 80)) = .ok (.slice (some ⟨gb,0,none⟩) (h.n+1) cb2) wb):=hab
      have HNx:Hid (UO w wb A B (i) (j+1) ⟨some ⟨gb,0,none⟩,h.n+1,cb2⟩ (D++[r])):=⟨Ob,mem_snoc HUx.out.okd hrok,by rw [plR_sn];exact hmg,by show h.n+1 <= _;have:=HUx.out.num;omega⟩
      have hlq:j < nb:=by have:=HLA.out;have:=HLB.out;omega
      have Hlt:=hide hlq;clear hab Ob hKx hold hrok hmg Ax hq;go_wp2_with (at_builtin;refine seq_appM rfl (.tmp 47) (.tmp 52) rfl rfl rfl HAb.out ?_);clear hld;go_roundw
      case rel=>exact ⟨i,j+1,⟨some ⟨gb,0,none⟩,h.n+1,cb2⟩,D++[r],hi,by have:=Hlt.out;omega,rfl,rfl,by simp,HNx.out⟩
      case measure=>simp [intOf];have:=Hlt.out;omega
     ·obtain rfl:z=0:=by omega
      clear hz9 hz0;have hz0:(0:Int)=0:=rfl;obtain ⟨⟨hq,hq2⟩,hmg⟩:=zeq HUx.out.mg HZ.out hz0;obtain ⟨d3,hd3,Ax⟩:=(HA.out.below HUx.out.own.below).at i (by have:=HLA.out;have:=hq;omega);have hKx:=(HA.out.below HUx.out.own.below).okAt i (by have:=HLA.out;have:=hq;omega);have hold:=(HA.out.okAt i (by have:=HLA.out;have:=hq;omega)).1;have hrok:=getOk HFA.out.1 hq;obtain ⟨r,Hr⟩:∃ r,Hid (A.getD i rc0=r):=⟨_,rfl⟩;rw [Hr.out] at Ax hKx hold hrok hmg;obtain rfl:=Option.some.inj hd3;have hld:=run_laRe Ax;obtain ⟨gb,cb2,wb,hab,Ob,-⟩:=HUx.out.own.app r hKx (farH_of HUx.out.own hold) (by have:=HUx.out.num;have:=HN.out;have:=HLA.out;have:=HLB.out;have:=hq;omega);have HAb:Hid ((Builtin.append_ #[27,27] 27 #[.slice h.o h.n h.c,.slice (some ⟨w4.heap.size,0,none⟩) 1 1]).run Tryz.prog (w4.alloc (.cells #[.string r.s,.slice r.p.vo r.p.vn r.p.vc,.slice r.p.co r.p.cn r.p.cc] 80)) = .ok (.slice (some ⟨gb,0,none⟩) (h.n+1) cb2) wb):=hab
      have HNx:Hid (UO w wb A B (i+1) (j+1) ⟨some ⟨gb,0,none⟩,h.n+1,cb2⟩ (D++[r])):=⟨Ob,mem_snoc HUx.out.okd hrok,by rw [plR_sn];exact hmg,by show h.n+1 <= _;have:=HUx.out.num;omega⟩
      have hlq:i < na/\j < nb:=by have:=HLA.out;have:=HLB.out;omega
      have Hlt:=hide hlq;clear hab Ob hKx hold hrok hmg Ax hq;go_wp2_with (at_builtin;refine seq_appM rfl (.tmp 38) (.tmp 43) rfl rfl rfl HAb.out ?_);clear hld;go_roundw
      case rel=>exact ⟨i+1,j+1,⟨some ⟨gb,0,none⟩,h.n+1,cb2⟩,D++[r],by have:=Hlt.out;omega,by have:=Hlt.out;omega,rfl,by simp,by simp,HNx.out⟩
      case measure=>simp [intOf];have:=Hlt.out;omega
   ·have HZ:Hid (ZOf A B i j A.length B.length (-1)):=.inr (.inl ⟨by rw [HLA.out];exact h1,by rw [HLB.out];omega,rfl⟩);have HUx:=HU
    have i1:(i:Int) < (na:Int):=by omega
    have e2:((j:Int) == (nb:Int))=true:=by simp;omega
    have hz0:(-1:Int) < 0:=by decide
    clear h1 h2;obtain ⟨hq,hmg⟩:=zlt HUx.out.mg HZ.out hz0;obtain ⟨d3,hd3,Ax⟩:=(HA.out.below HUx.out.own.below).at i (by have:=HLA.out;have:=hq;omega);have hKx:=(HA.out.below HUx.out.own.below).okAt i (by have:=HLA.out;have:=hq;omega);have hold:=(HA.out.okAt i (by have:=HLA.out;have:=hq;omega)).1;have hrok:=getOk HFA.out.1 hq;obtain ⟨r,Hr⟩:∃ r,Hid (A.getD i rc0=r):=⟨_,rfl⟩;rw [Hr.out] at Ax hKx hold hrok hmg;subst hd3;have hld:=run_laRe Ax;obtain ⟨gb,cb2,wb,hab,Ob,-⟩:=HUx.out.own.app r hKx (farH_of HUx.out.own hold) (by have:=HUx.out.num;have:=HN.out;have:=HLA.out;have:=HLB.out;have:=hq;omega);have HAb:Hid ((Builtin.append_ #[27,27] 27 #[.slice h.o h.n h.c,.slice (some ⟨wr.heap.size,0,none⟩) 1 1]).run Tryz.prog (wr.alloc (.cells #[.string r.s,.slice r.p.vo r.p.vn r.p.vc,.slice r.p.co r.p.cn r.p.cc] 80)) = .ok (.slice (some ⟨gb,0,none⟩) (h.n+1) cb2) wb):=hab
    have HNx:Hid (UO w wb A B (i+1) (j) ⟨some ⟨gb,0,none⟩,h.n+1,cb2⟩ (D++[r])):=⟨Ob,mem_snoc HUx.out.okd hrok,by rw [plR_sn];exact hmg,by show h.n+1 <= _;have:=HUx.out.num;omega⟩
    have hlq:i < na:=by have:=HLA.out;have:=HLB.out;omega
    have Hlt:=hide hlq;clear hab Ob hKx hold hrok hmg Ax hq;go_wp2_with (at_builtin;refine seq_appM rfl (.tmp 38) (.tmp 43) rfl rfl rfl HAb.out ?_);clear hld;go_roundw
    case rel=>exact ⟨i+1,j,⟨some ⟨gb,0,none⟩,h.n+1,cb2⟩,D++[r],by have:=Hlt.out;omega,hj,rfl,by simp,rfl,HNx.out⟩
    case measure=>simp [intOf];have:=Hlt.out;omega
  ·by_cases h2:j < nb
   ·have Hij:Hid (i < A.length∨j < B.length):=.inr (by rw [HLB.out];exact h2);have HZ:Hid (ZOf A B i j A.length B.length 1):=.inl ⟨by rw [HLA.out];omega,rfl⟩;have HUx:=HU
    have i1:¬ (i:Int) < (na:Int):=by omega
    have i2:(j:Int) < (nb:Int):=by omega
    have e1:((i:Int) == (na:Int))=true:=by simp;omega
    have e2:((j:Int) == (nb:Int))=false:=by simp;omega
    have hz0:(0:Int) < 1:=by decide
    clear h1 h2;obtain ⟨hq,hmg⟩:=zgt HUx.out.mg HZ.out hz0 Hij.out;obtain ⟨d3,hd3,Ax⟩:=(HB.out.below HUx.out.own.below).at j (by have:=HLB.out;have:=hq;omega);have hKx:=(HB.out.below HUx.out.own.below).okAt j (by have:=HLB.out;have:=hq;omega);have hold:=(HB.out.okAt j (by have:=HLB.out;have:=hq;omega)).1;have hrok:=getOk HFB.out.1 hq;obtain ⟨r,Hr⟩:∃ r,Hid (B.getD j rc0=r):=⟨_,rfl⟩;rw [Hr.out] at Ax hKx hold hrok hmg;subst hd3;have hld:=run_laRe Ax;obtain ⟨gb,cb2,wb,hab,Ob,-⟩:=HUx.out.own.app r hKx (farH_of HUx.out.own hold) (by have:=HUx.out.num;have:=HN.out;have:=HLA.out;have:=HLB.out;have:=hq;omega);have HAb:Hid ((Builtin.append_ #[27,27] 27 #[.slice h.o h.n h.c,.slice (some ⟨wr.heap.size,0,none⟩) 1 1]).run Tryz.prog (wr.alloc (.cells #[.string r.s,.slice r.p.vo r.p.vn r.p.vc,.slice r.p.co r.p.cn r.p.cc] 80)) = .ok (.slice (some ⟨gb,0,none⟩) (h.n+1) cb2) wb):=hab
    have HNx:Hid (UO w wb A B (i) (j+1) ⟨some ⟨gb,0,none⟩,h.n+1,cb2⟩ (D++[r])):=⟨Ob,mem_snoc HUx.out.okd hrok,by rw [plR_sn];exact hmg,by show h.n+1 <= _;have:=HUx.out.num;omega⟩
    have hlq:j < nb:=by have:=HLA.out;have:=HLB.out;omega
    have Hlt:=hide hlq;clear hab Ob hKx hold hrok hmg Ax hq;go_wp2_with (at_builtin;refine seq_appM rfl (.tmp 47) (.tmp 52) rfl rfl rfl HAb.out ?_);clear hld;go_roundw
    case rel=>exact ⟨i,j+1,⟨some ⟨gb,0,none⟩,h.n+1,cb2⟩,D++[r],hi,by have:=Hlt.out;omega,rfl,rfl,by simp,HNx.out⟩
    case measure=>simp [intOf];have:=Hlt.out;omega
   ·have i1:¬ (i:Int) < (na:Int):=by omega
    have i2:¬ (j:Int) < (nb:Int):=by omega
    have HE:Hid (RcG w wr (.returned (.slice h.o h.n h.c)) A B):=by
     have hmg:=HU.out.mg;rw [plR_drop_end (show i=A.length by have:=HLA.out;omega),plR_drop_end (show j=B.length by have:=HLB.out;omega)] at hmg;have hnum:=HU.out.num;have hN:=HN.out;have hla:=HLA.out;have hlb:=HLB.out;exact ⟨h,D,rfl,HU.out.own.src (by omega),HU.out.own.below,⟨hmg.done,HU.out.okd⟩,by omega⟩
    clear HU h1 h2;go_wp2_with fail;go_ret;exact HE.out
end
section
open Go.RowKit
attribute [local go_sem ↓] ldP_eq stP_eq ldFa_eq stFa_eq bldF_eq bsPs_eq
attribute [local go_sem] cells_PV PC_size cells_FaV FaC_size zero_FaZ run_bldF0 run_bldF12 run_bsPs
end
end Go.Proofs.YtaphmhbmhcahaaaGreat
namespace Go.Proofs.YtaphmhbmhcahaaaGreat.K
section
open Go.RowKit
attribute [local go_sem ↓] ld28_eq st28_eq ld26_eq
attribute [local go_sem] zero_EC cells_EV EC_size fold_EC
attribute [local go_sem ↓] run_eq28 run_eqD
end
section
open Go.RowKit Go.Lib
attribute [local go_sem ↓] ld28_eq st28_eq
attribute [local go_sem] zero_EC cells_EV EC_size fold_EC
end
end Go.Proofs.YtaphmhbmhcahaaaGreat.K
namespace Go.Proofs.YtaphmhbmhcahaaaGreat
section
open Go.RowKit
theorem FaBox.ne {W:World} {g:Nat} {m:FacV} (A:FaBox W g m) {a:Addr} {v:Value} (hc:W.cell? a=some v) (hv:∀ o n c,v ≠ .slice o n c):a.block≠g:=by
 rintro rfl;obtain ⟨b,o,k⟩:=a;unfold FaBox at A;have h:=World.cell?_spot hc;obtain rfl:k=none:=h;simp only [World.cell?,A] at hc;rcases o with _ | _ | _ | _ | o <;> simp [FaC] at hc
 all_goals exact absurd hc.symm (hv _ _ _)
theorem cell_off {W:World} {g:Nat} {a:Addr} (c:Array Value) (h:a.block≠g):(W.setRow g c).cell? a=W.cell? a:=by
 unfold World.cell?;rw [setRow_other _ _ _ _ h]
theorem esrc_offF {W:World} {g:Nat} {m:FacV} {ao:Option Addr} {n cap:Nat} {L:List K.En} (A:FaBox W g m) (h:K.ESrc W ao n cap L) (c:Array Value):K.ESrc (W.setRow g c) ao n cap L:=by
 refine ⟨h.1,h.2.1,fun ad e t ht=>?_,h.2.2.2⟩;have B:=h.2.2.1 ad e t ht;have hb:(ad.add (t * 4)).block≠g:=A.ne B.c0 (fun _ _ _ h=>by cases h);exact ⟨by rw [cell_off c hb];exact B.c0,by rw [cell_off c (by rw [block_add];exact hb)];exact B.c1,by rw [cell_off c (by rw [block_add];exact hb)];exact B.c2,by rw [cell_off c (by rw [block_add];exact hb)];exact B.c3⟩
theorem psrc_offF {W:World} {g:Nat} {m:FacV} {p:Pv} (A:FaBox W g m) (h:PSrc W p) (c:Array Value):PSrc (W.setRow g c) p:=by
 refine ⟨⟨h.vec.1,h.vec.2.1,fun ad e t ht=>?_⟩,⟨h.cloud.len,h.cloud.nil,fun ad e t ht=>?_,h.cloud.big,h.cloud.cap⟩,h.big⟩
 ·have B:=h.vec.2.2 ad e t ht;rw [cell_off c (A.ne B (fun _ _ _ h=>by cases h))];exact B
 ·have B:=h.cloud.cell ad e t ht;have hb:=A.ne B.c0 (fun _ _ _ h=>by cases h);exact ⟨by rw [cell_off c hb];exact B.c0,by rw [cell_off c (by rw [block_add];exact hb)];exact B.c1,by rw [cell_off c (by rw [block_add];exact hb)];exact B.c2⟩
theorem rcs_offF {W:World} {g:Nat} {m:FacV} {ao:Option Addr} {n cap:Nat} {L:List Rc} (A:FaBox W g m) (h:RcS W ao n cap L) (c:Array Value):RcS (W.setRow g c) ao n cap L:=by
 refine ⟨h.len,h.nil,fun ad ha t ht=>?_,fun r hr=>⟨psrc_offF A (h.ok r hr).1 c,(h.ok r hr).2⟩,h.big⟩;have B:=h.at_ ad ha t ht;have hb:=A.ne B.c0 (fun _ _ _ h=>by cases h);exact ⟨by rw [cell_off c hb];exact B.c0,by rw [cell_off c (by rw [block_add];exact hb)];exact B.c1,by rw [cell_off c (by rw [block_add];exact hb)];exact B.c2⟩
theorem FcOk.offF {W:World} {g:Nat} {m:FacV} {f:Fc} (h:FcOk W f) (A:FaBox W g m) (c:Array Value):FcOk (W.setRow g c) f:=⟨esrc_offF A h.es c,psrc_offF A h.p c,rcs_offF A h.rs c⟩
def FcE (w w':World) (e:Ending) (D:Fc -> Int -> Prop):Prop:=∃ f er,e = .returned (.tuple #[FaV (mkF f),.int .i64 er])/\FcOk w' f/\FcR f/\Below w.heap.size w w'/\D f er
attribute [local go_sem ↓] ldP_eq stP_eq ldFa_eq stFa_eq bldF_eq bsPs_eq
attribute [local go_sem] cells_PV PC_size cells_FaV FaC_size zero_FaZ run_bldF0 run_bldF12 run_bsPs
end
section
open Go.RowKit
theorem run_bldFx (a b:Option Addr) (n c m d:Nat) (p:Pv) (w:World):(bldF #[(0,.slice a n c),(1,.agg (PC p)),(2,.slice b m d)]).run Tryz.prog w = .ok (.agg (FaC (mkF ⟨a,n,c,[],p,b,m,d,[]⟩))) w:=by kernel_rfl
def ExA (w w':World) (x:Ending) (s:Fc):Prop:=∃ q:Pv,x = .returned (FaV (mkF ⟨s.ao,s.an,s.ac,s.es,q,s.ro,s.rn,s.rc,s.rs⟩))/\FcOk w' ⟨s.ao,s.an,s.ac,s.es,q,s.ro,s.rn,s.rc,s.rs⟩/\Below w.heap.size w w'/\∃ D,CanonOf (dotsG (s.es.map dotOf)) D/\∃ C:Nat -> List Rn,(∀ r,r < 16 -> MinusOf (runsAt s.p.P r) (runsAt D r) (C r))/\CanonOf C q.P
attribute [local go_sem ↓] ldP_eq stP_eq ldFa_eq stFa_eq ldSw_eq stSw_eq bldF_eq
attribute [local go_sem] cells_PV PC_size cells_FaV FaC_size zero_FaZ run_bldFx
theorem refExpand_any (s:Fc) (w:World) (hF:FcOk w s):Calls Tryz.prog 32 #[FaV (mkF s)] w fun e w'=>ExA w w' e s:=by
 have b1:=below_new w (.cells (FaC (mkF s)) 29);have X1:=SwBox_new w (mkF s);obtain ⟨w1,hw1⟩:∃ w1,w.alloc (.cells (FaC (mkF s)) 29)=w1:=⟨_,rfl⟩
 have hs1:w1.heap.size=w.heap.size+1:=by rw [<- hw1];simp
 rw [hw1] at b1 X1;have x2:FaBox (w1.alloc (.cells (FaC (mkF fz0)) 59)) w1.heap.size (mkF fz0):=FaBox_new w1 (mkF fz0);have b2:=below_new w1 (.cells (FaC (mkF fz0)) 59);obtain ⟨w2,hw2⟩:∃ w2,w1.alloc (.cells (FaC (mkF fz0)) 59)=w2:=⟨_,rfl⟩;rw [hw2] at x2 b2;rw [hs1] at x2;obtain ⟨G,hG0⟩:∃ G,w.heap.size=G:=⟨_,rfl⟩;rw [hG0] at X1 x2 hs1;have HX:=hide (X1.below b2);have HZ:=hide x2;have HBK:=hide (b1.trans (b2.mono b1.size));have HF:=hide (hF.below HBK.out);have HGs:Hid (w.heap.size=G):=hG0;clear hF b1 b2 X1 x2;have HSt:Hid (∀ W,SwBox W G (mkF s) -> (W.cell? ⟨G,0,none⟩=some (.slice s.ao s.an s.ac)/\W.cell? ⟨G,3,none⟩=some (.slice s.ro s.rn s.rc))/\(ldP (.pointer (some ⟨G,1,none⟩))).run Tryz.prog W = .ok (PV s.p) W):=fun W h=>⟨h.cs,run_ldP h.past⟩;go_enter Tryz.func32,Tryz.ntmps32;go_upto_region 1 with fail;clear hw1 hw2 hs1 hG0
 refine wp_region_held_drew (S:=fun W=>(W.cell? ⟨G,0,none⟩=some (.slice s.ao s.an s.ac)/\W.cell? ⟨G,3,none⟩=some (.slice s.ro s.rn s.rc))/\(ldP (.pointer (some ⟨G,1,none⟩))).run Tryz.prog W = .ok (PV s.p) W) (by kernel_rfl) (HSt.out _ (HX.out.below (below_drew1 w2))) (fun hHeld=>?_);refine wU 0 ?_;refine wU 1 ?_;refine wU 2 ?_;refine wU 3 ?_;refine wU 4 ?_;refine wU 5 ?_;refine wU 8 ?_;refine wU 9 ?_;refine wpAnyH_ready (rs:=[6]) (by kernel_rfl) (by simp) (.cons rfl (fun K hK=>?_) .nil);go_simp;go_wp2_with fail;refine (refDots8_any s.ao s.an s.ac s.es ⟨#[]⟩ (-1) _ (HF.out.es.below (below_drew1 w2))).mono ?_;rintro x w4 ⟨d,rfl,Sd,-,b4,Cd⟩;rw [dsB_all] at Cd;have HB4:=hide ((below_drew1 w2).trans (b4.mono (below_drew1 w2).size));have HD:=hide Sd;have HCd:=hide Cd;clear Sd Cd b4;refine hK.out _ _ (HSt.out _ (HX.out.below HB4.out)) (fun hHeld=>?_)
 clear hK K;refine wpAnyH_ready (rs:=[7]) (by kernel_rfl) (by simp) (.cons rfl (fun K hK=>?_) .nil);go_simp;go_wp2_with fail;refine (refMinus_any s.p d _ (HF.out.p.below HB4.out) HD.out).mono ?_;rintro x w5 ⟨q,rfl,Sq,-,b5,Cq⟩;have HB5:=wTr HB4 b5;have A5:=HZ.out.below HB5.out;have st:=run_stFa (m':=mkF ⟨s.ao,s.an,s.ac,[],q,s.ro,s.rn,s.rc,[]⟩) A5;have HE1:Hid (FaBox (w5.setRow (G+1) (FaC (mkF ⟨s.ao,s.an,s.ac,[],q,s.ro,s.rn,s.rc,[]⟩))) (G+1) (mkF ⟨s.ao,s.an,s.ac,s.es,q,s.ro,s.rn,s.rc,s.rs⟩)):=A5.setRow;have HXe:Hid (SwBox (w5.setRow (G+1) (FaC (mkF ⟨s.ao,s.an,s.ac,[],q,s.ro,s.rn,s.rc,[]⟩))) G (mkF s)):=(setRow_other _ _ _ _ (by omega)).trans (HX.out.below HB5.out)
 have HE:Hid (ExA w (w5.setRow (G+1) (FaC (mkF ⟨s.ao,s.an,s.ac,[],q,s.ro,s.rn,s.rc,[]⟩))) (.returned (FaV (mkF ⟨s.ao,s.an,s.ac,s.es,q,s.ro,s.rn,s.rc,s.rs⟩))) s):=
  ⟨q,rfl,FcOk.offF (f:=⟨s.ao,s.an,s.ac,s.es,q,s.ro,s.rn,s.rc,s.rs⟩) ⟨HF.out.es.below HB5.out,Sq,HF.out.rs.below HB5.out⟩ A5 _,below_setRow (HBK.out.trans (HB5.out.mono HBK.out.size)) (by rw [HGs.out];omega),d.P,HCd.out,Cq⟩
 clear Sq b5 Cq A5;refine hK.out _ _ (HSt.out _ (HX.out.below HB5.out)) (fun hHeld=>?_);clear hK K;refine wU 10 ?_;refine wpAnyH_ready (rs:=[11]) (by kernel_rfl) (by simp) (.cons rfl (fun K hK=>?_) .nil);go_simp;refine hK.out _ _ (HSt.out _ HXe.out) (fun hHeld=>?_);clear hK K;clear st;refine wpAnyH_done (by kernel_rfl) ?_ _;clear hHeld;go_wp2_with fail;refine bodyPost_ret (res1Fa rfl rfl HE1.out) rfl ?_;exact HE.out
end
section
open Go.RowKit
def UnD (f g u:Fc):Prop:=K.Asc u.es/\(∀ e,e∈u.es↔e∈f.es∨e∈g.es)/\CanonOf (runsOf [f.p,g.p]) u.p.P/\UnOf f.rs g.rs u.rs/\u.rn <= f.rn+g.rn
def UnG (w w':World) (x:Ending) (f g:Fc):Prop:=(K.Clash (f.es++g.es)/\x = .returned (.tuple #[FaV (mkF fz0),.bool false])/\Below w.heap.size w w')∨(¬ K.Clash (f.es++g.es)/\∃ u,x = .returned (.tuple #[FaV (mkF u),.bool true])/\FcOk w' u/\Below w.heap.size w w'/\UnD f g u)
theorem box3F (w:World) (f g:Fc):∃ wk,((w.alloc (.cells (FaC (mkF f)) 59)).alloc (.cells (FaC (mkF g)) 59)).alloc (.cells (FaC (mkF fz0)) 59)=wk/\Hid (FaBox wk w.heap.size (mkF f))/\Hid (FaBox wk (w.heap.size+1) (mkF g))/\Hid (FaBox wk (w.heap.size+2) (mkF fz0))/\Hid (Below w.heap.size w wk):=by
 have b1:=below_new w (.cells (FaC (mkF f)) 59);have b2:=below_new (w.alloc (.cells (FaC (mkF f)) 59)) (.cells (FaC (mkF g)) 59);have X2:=FaBox_new (w.alloc (.cells (FaC (mkF f)) 59)) (mkF g);have b3:=below_new ((w.alloc (.cells (FaC (mkF f)) 59)).alloc (.cells (FaC (mkF g)) 59)) (.cells (FaC (mkF fz0)) 59);have X3:=FaBox_new ((w.alloc (.cells (FaC (mkF f)) 59)).alloc (.cells (FaC (mkF g)) 59)) (mkF fz0);have B2:=b1.trans (b2.mono b1.size);rw [World.size_alloc] at X2;rw [World.size_alloc,World.size_alloc] at X3;exact ⟨_,rfl,((FaBox_new w (mkF f)).below b2).below b3,X2.below b3,X3,B2.trans (b3.mono B2.size)⟩
attribute [local go_sem ↓] ldP_eq stP_eq ldFa_eq stFa_eq bldF_eq bsPs_eq
attribute [local go_sem] cells_PV PC_size cells_FaV FaC_size zero_FaZ run_bsPs run_bldFx zero_PC run_bldF0
theorem refUnion11_any (f g:Fc) (w:World) (hF:FcOk w f) (hG:FcOk w g) (ff:FormF f) (fg:FormF g) (hn:f.rn+g.rn <= 2199023255551):Calls Tryz.prog 31 #[FaV (mkF f),FaV (mkF g)] w fun x w'=>UnG w w' x f g:=by
 obtain ⟨wk,hwk,HX,HY,HZ,HBK⟩:=box3F w f g;have HF:=hide (hF.below HBK.out);have HG:=hide (hG.below HBK.out);have Hf:=hide ff;have Hg:=hide fg;have HN:=hide hn;obtain ⟨G,hG0⟩:∃ G,w.heap.size=G:=⟨_,rfl⟩;rw [hG0] at HX HY HZ;have HGs:Hid (w.heap.size=G):=hG0;clear hF hG ff fg hn;have c0:=HX.out.cs.1;have d0:=HY.out.cs.1;go_enter Tryz.func31,Tryz.ntmps31;go_wp2_with fail;clear hwk hG0 c0 d0;refine (refEntries11_any f.ao g.ao f.an f.ac g.an g.ac f.es g.es _ HF.out.es HG.out.es ((chk_okS HF.out.es.1).2 Hf.out.1) ((chk_okS HG.out.es.1).2 Hg.out.1)).mono ?_;rintro x w3 ⟨o,q0,k,R,ok,rfl,SR,b3,hU⟩;have HX3:=hide (HX.out.below b3);have HY3:=hide (HY.out.below b3);have HZ3:=hide (HZ.out.below b3);have HF3:=hide (HF.out.below b3);have HG3:=hide (HG.out.below b3);have HB3:=wTr HBK b3;clear b3 HX HY HZ HF HG HBK
 cases ok with
 | false =>
  have HC:Hid (K.Clash (f.es++g.es)):=hU.elim (fun h=>h.2) fun h=>absurd h.1 (by decide);have st0:=run_stFa (m':=mkF fz0) HZ3.out;have HE1:Hid (FaBox (w3.setRow (G+2) (FaC (mkF fz0))) (G+2) (mkF fz0)):=HZ3.out.setRow;have HE:Hid (UnG w (w3.setRow (G+2) (FaC (mkF fz0))) (.returned (.tuple #[FaV (mkF fz0),.bool false])) f g):=.inl ⟨HC.out,rfl,below_setRow HB3.out (by rw [HGs.out];omega)⟩;clear hU SR;go_wp2_with fail;clear st0;refine bodyPost_ret (res2Fb rfl rfl rfl HE1.out) rfl ?_;exact HE.out
 | true =>
  have HU:Hid (true=true/\¬ K.Clash (f.es++g.es)/\K.Asc R/\∀ e,e∈R↔e∈f.es∨e∈g.es):=hU.elim (fun h=>absurd h.1 (by decide)) id;have HSR:=hide SR;have HSt:Hid (∀ W,FaBox W G (mkF f) -> FaBox W (G+1) (mkF g) -> ((ldP (.pointer (some ⟨G,1,none⟩))).run Tryz.prog W = .ok (PV f.p) W/\(ldP (.pointer (some ⟨G+1,1,none⟩))).run Tryz.prog W = .ok (PV g.p) W)/\W.cell? ⟨G,3,none⟩=some (.slice f.ro f.rn f.rc)/\W.cell? ⟨G+1,3,none⟩=some (.slice g.ro g.rn g.rc)):=fun W h k=>⟨⟨run_ldP h.past,run_ldP k.past⟩,h.cs.2,k.cs.2⟩;clear hU SR;go_upto_region 4 with fail;refine wp_region_held_drew (S:=fun W=>((ldP (.pointer (some ⟨G,1,none⟩))).run Tryz.prog W = .ok (PV f.p) W/\(ldP (.pointer (some ⟨G+1,1,none⟩))).run Tryz.prog W = .ok (PV g.p) W)/\W.cell? ⟨G,3,none⟩=some (.slice f.ro f.rn f.rc)/\W.cell? ⟨G+1,3,none⟩=some (.slice g.ro g.rn g.rc)) (by kernel_rfl) (HSt.out _ (HX3.out.below (below_drew1 w3)) (HY3.out.below (below_drew1 w3))) (fun hHeld=>?_)
  refine wU 0 ?_;refine wU 1 ?_;refine wU 2 ?_;refine wU 3 ?_;refine wU 4 ?_;refine wU 7 ?_;refine wU 8 ?_;refine wU 9 ?_;refine wU 10 ?_;refine wpAnyH_ready (rs:=[5]) (by kernel_rfl) (by simp) (.cons rfl (fun K hK=>?_) .nil);obtain ⟨w4,hw4⟩:∃ w4,w3.drew=w4:=⟨_,rfl⟩
  have HB4:Hid (Below w3.heap.size w3 w4):=by rw [<- hw4];exact below_drew1 w3
  rw [hw4];clear hw4;have hPR:=prow2 w4 f.p g.p (HF3.out.p.below HB4.out) (HG3.out.p.below HB4.out);have b7:=below_new w4 (.cells #[.slice f.p.vo f.p.vn f.p.vc,.slice f.p.co f.p.cn f.p.cc,.slice g.p.vo g.p.vn g.p.vc,.slice g.p.co g.p.cn g.p.cc] 26);obtain ⟨w7,hw7⟩:∃ w7,w4.alloc (.cells #[.slice f.p.vo f.p.vn f.p.vc,.slice f.p.co f.p.cn f.p.cc,.slice g.p.vo g.p.vn g.p.vc,.slice g.p.co g.p.cn g.p.cc] 26)=w7:=⟨_,rfl⟩;rw [hw7] at hPR b7;have HPR:=hide hPR;have HB7:=wTr HB4 b7;clear hPR b7;go_simp;refine hK.out _ _ (HSt.out _ (HX3.out.below HB7.out) (HY3.out.below HB7.out)) (fun hHeld=>?_);clear hK K;clear hw7;refine wpAnyH_ready (rs:=[6]) (by kernel_rfl) (by simp) (.cons rfl (fun K hK=>?_) .nil);go_simp;go_wp2_with fail;refine (refJoin_any (some ⟨w4.heap.size,0,none⟩) 2 2 [f.p,g.p] _ HPR.out (bsP2_wt Hf.out.2.1 Hg.out.2.1) (by decide)).mono ?_;rintro x w8 ⟨q,rfl,S8,-,b8,C8⟩
  have HB8:=wTr HB7 b8;have HS8:=hide S8;have HC8:=hide C8;clear S8 b8 C8;refine hK.out _ _ (HSt.out _ (HX3.out.below HB8.out) (HY3.out.below HB8.out)) (fun hHeld=>?_);clear hK K;refine wpAnyH_ready (rs:=[11]) (by kernel_rfl) (by simp) (.cons rfl (fun K hK=>?_) .nil);go_simp;go_wp2_with fail;refine (refRecords11_any f.ro g.ro f.rn f.rc g.rn g.rc f.rs g.rs _ (HF3.out.rs.below HB8.out) (HG3.out.rs.below HB8.out) Hf.out.2.2 Hg.out.2.2 HN.out).mono ?_;rintro x w9 ⟨h,F,rfl,SF,b9,UF,hn9⟩;obtain ⟨ro,rn,rc⟩:=h;have HB9:=wTr HB8 b9;have A9:=HZ3.out.below HB9.out;have st:=run_stFa (m':=mkF ⟨o,q0,k,R,q,ro,rn,rc,F⟩) A9;obtain ⟨we,hwe⟩:∃ we,w9.setRow (G+2) (FaC (mkF ⟨o,q0,k,R,q,ro,rn,rc,F⟩))=we:=⟨_,rfl⟩
  have HE1:Hid (FaBox we (G+2) (mkF ⟨o,q0,k,R,q,ro,rn,rc,F⟩)):=by rw [<- hwe];exact A9.setRow
  have HXe:Hid (FaBox we G (mkF f)):=by rw [<- hwe];exact (setRow_other _ _ _ _ (by omega)).trans (HX3.out.below HB9.out)
  have HYe:Hid (FaBox we (G+1) (mkF g)):=by rw [<- hwe];exact (setRow_other _ _ _ _ (by omega)).trans (HY3.out.below HB9.out)
  have HE:Hid (UnG w we (.returned (.tuple #[FaV (mkF ⟨o,q0,k,R,q,ro,rn,rc,F⟩),.bool true])) f g):=.inr ⟨HU.out.2.1,⟨o,q0,k,R,q,ro,rn,rc,F⟩,rfl,by
   rw [<- hwe]
   exact FcOk.offF (f:=⟨o,q0,k,R,q,ro,rn,rc,F⟩) ⟨HSR.out.below HB9.out,HS8.out.below b9,SF⟩ A9 _,by
   rw [<- hwe]
   exact below_setRow (HB3.out.trans (HB9.out.mono HB3.out.size)) (by rw [HGs.out];omega),HU.out.2.2.1,HU.out.2.2.2,HC8.out,UF,by have h1:=HF3.out.rs.len;have h2:=HG3.out.rs.len;show rn <= f.rn+g.rn;have h3:rn <= f.rs.length+g.rs.length:=hn9;omega⟩
  clear SF b9 UF A9 hn9;refine hK.out _ _ (HSt.out _ (HX3.out.below HB9.out) (HY3.out.below HB9.out)) (fun hHeld=>?_);clear hK K;refine wU 12 ?_
  have st1:(stFa (.pointer (some ⟨G+2,0,none⟩)) (.agg (FaC (mkF ⟨o,q0,k,[],q,ro,rn,rc,[]⟩)))).run Tryz.prog w9 = .ok () we:=by rw [<- hwe];exact st
  clear st;refine wpAnyH_ready (rs:=[13]) (by kernel_rfl) (by simp) (.cons rfl (fun K hK=>?_) .nil);go_simp;refine hK.out _ _ (HSt.out _ HXe.out HYe.out) (fun hHeld=>?_);clear hK K;clear st1;refine wU 14 ?_;refine wpAnyH_done (by kernel_rfl) ?_ _;clear hHeld;go_wp2_with fail;refine bodyPost_ret (res2Fb rfl rfl rfl HE1.out) rfl ?_;exact HE.out
end
end Go.Proofs.YtaphmhbmhcahaaaGreat
