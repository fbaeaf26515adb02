/- YFd -/
import Derived.Test.YtjffpimfngdggaaGreatTk
import Derived.Test.YtjffpimfngdggaaGreatFs45
set_option maxRecDepth 100000
set_option maxHeartbeats 12800000
namespace Go.Proofs.YtjffpimfngdggaaGreat
open Go.RowKit
def fsC (f g h:Fc):Array Value:=#[.slice f.ao f.an f.ac,.slice f.p.vo f.p.vn f.p.vc,.slice f.p.co f.p.cn f.p.cc,.slice f.ro f.rn f.rc,
 .slice g.ao g.an g.ac,.slice g.p.vo g.p.vn g.p.vc,.slice g.p.co g.p.cn g.p.cc,.slice g.ro g.rn g.rc,
 .slice h.ao h.an h.ac,.slice h.p.vo h.p.vn h.p.vc,.slice h.p.co h.p.cn h.p.cc,.slice h.ro h.rn h.rc]
def bsF3 (a:Array (Nat × Value)):Sem Value:=Instr.buildSlice 36 3 a
theorem ziw (a:Array (Nat × Value)):Instr.buildSlice 36 3 a=bsF3 a:=rfl
theorem zga (f g h:Fc) (w:World):(bsF3 #[(0,.agg (FaC (mkF f))),(1,.agg (FaC (mkF g))),(2,.agg (FaC (mkF h)))]).run Tryz.prog w = .ok (.slice (some ⟨w.heap.size,0,none⟩) 3 3) (w.alloc (.cells (fsC f g h) 29)):=by kernel_rfl
def pk3 (f g h:Fc) (k:Nat):Fc:=if k=0 then f else if k=1 then g else h
theorem zjw (w:World) (f g h:Fc) (k:Nat) (hk:k < 3):FaAt (w.alloc (.cells (fsC f g h) 29)) ⟨w.heap.size,k * 4,none⟩ (mkF (pk3 f g h k)):=by
 have h1:=heap_alloc_new w (.cells (fsC f g h) 29);generalize w.alloc (.cells (fsC f g h) 29)=W at h1 ⊢;generalize w.heap.size=g at h1 ⊢
 obtain rfl | rfl | rfl:k=0∨k=1∨k=2:=by omega
 ·refine ⟨?_,?_,?_,?_⟩ <;> simp [Addr.add,World.cell?,h1,fsC,mkF,pk3]
 ·refine ⟨?_,?_,?_,?_⟩ <;> simp [Addr.add,World.cell?,h1,fsC,mkF,pk3]
 ·refine ⟨?_,?_,?_,?_⟩ <;> simp [Addr.add,World.cell?,h1,fsC,mkF,pk3]
attribute [local go_sem ↓] zD zC zL zK ziw
attribute [local go_sem] zl zp zv yA zaM zga
theorem vL (c:Cz) (w:World) (hU:CzU w c):Calls Tryz.prog 3 #[CzV c] w fun e w'=>e = .returned (.bool true)/\Below w.heap.size w w':=by
 have b1:=ze w (.cells (CzC c) 34);have X1:=zfK w c;obtain ⟨wk,hwk⟩:∃ w1,w.alloc (.cells (CzC c) 34)=w1:=⟨_,rfl⟩;rw [hwk] at b1 X1;obtain ⟨G,hG0⟩:∃ G,w.heap.size=G:=⟨_,rfl⟩;rw [hG0] at X1;have HX:=hide X1;have HBK:=hide b1;have HUf:=hide (hU.f.b.below b1);have HUg:=hide (hU.g.b.below b1);have HUh:=hide (hU.h.b.below b1);have HUs:=hide (hU.s.b.below b1);clear hU b1 X1;go_enter Tryz.func3,Tryz.ntmps3;go_wp2_with fail;clear hwk hG0;refine (zb9 _).mono ?_;rintro e w1 ⟨rfl,b1⟩;have HB1:=hide b1;clear b1;have l0:=ws (HX.out.below HB1.out).fF;have l1:=ws (HX.out.below HB1.out).gF;have l2:=ws (HX.out.below HB1.out).hF;have hat:=zjw w1 c.f c.g c.h;have b3:=ze w1 (.cells (fsC c.f c.g c.h) 29);obtain ⟨w3,hw3⟩:∃ w3,w1.alloc (.cells (fsC c.f c.g c.h) 29)=w3:=⟨_,rfl⟩;obtain ⟨g3,hg3⟩:∃ g,w1.heap.size=g:=⟨_,rfl⟩
 rw [hw3] at hat b3
 rw [hg3] at hat
 have HAt:=hide hat
 have HB3:=wTr HB1 b3;clear hat b3;go_wp2_with fail;clear l0 l1 l2 hw3 hg3
 have HFk0:Hid (∀ k,k < 3 -> SwB 1 w3 (pk3 c.f c.g c.h k)):=fun k hk=>by
  obtain rfl | rfl | rfl:k=0∨k=1∨k=2:=by omega
  ·exact HUf.out.below HB3.out
  ·exact HUg.out.below HB3.out
  ·exact HUh.out.below HB3.out
 replace HUs:=hide (HUs.out.below HB3.out);have HX0:=hide (HX.out.below HB3.out);replace HBK:=wTr HBK HB3.out;clear HX HUf HUg HUh HB1 HB3;have HX:=HX0;clear HX0;go_loopw [4,5,6,7,8,9,10] (fun i _ _ _ _ _ _ wr=>∃ k:Nat,k <= 3/\i = .int .i64 (k:Int)/\Hid (Below w3.heap.size w3 wr)) (fun i _ _ _ _ _ _ _=>3 - (intOf i).toNat)
 case atStart=>exact ⟨0,by decide,rfl,Below.refl _ _⟩
 case round =>
  obtain ⟨k,hk,rfl,HBr⟩:=hrel
  rename World=>wr
  by_cases hlt:k < 3
  ·have hlti:(k:Int) < 3:=by omega
   obtain ⟨F0,hF0⟩:∃ F0,pk3 c.f c.g c.h k=F0:=⟨_,rfl⟩
   have HFk:Hid (∀ W,Below w3.heap.size w3 W -> SwB 1 W F0):=fun W h=>by rw [<- hF0];exact (HFk0.out k hlt).below h
   have HLd:Hid (∀ W,Below w3.heap.size w3 W -> (ldFa (.pointer (some ⟨g3,k * 4,none⟩))).run Tryz.prog W = .ok (FaV (mkF F0)) W):=fun W h=>by
    have a:=(HAt.out k hlt).on h;rw [hF0] at a;exact ws a
   have Hlt:=hide hlt;clear hF0 hlt hk;have l0:=HLd.out _ HBr.out;go_wp2_with fail;clear l0;refine (jT 1 (by decide) F0 _ (HFk.out _ HBr.out)).mono ?_;rintro e v ⟨s1,e1,rfl,Sx,bx,hx⟩;have Hs1:=hide hx;clear hx;obtain ⟨gs,hg⟩:∃ g,v.heap.size=g:=⟨_,rfl⟩;obtain ⟨w3,hst,X3,B3,-⟩:=madeSx v s1 gs hg;have b33:=bx.trans (B3.mono bx.size);have HB1:=wTr HBr b33;have C2:=hide X3;have C3:=hide (Sx.below B3);clear Sx bx X3 B3 b33;have l0:=HLd.out _ HB1.out;go_wp2_with fail;clear l0 hst hg;refine (wh 1 (by decide) F0 _ (HFk.out _ HB1.out)).mono ?_;rintro e v ⟨s2,e2,rfl,Sx,bx,hx⟩;have Hs2:=hide hx;clear hx;obtain ⟨gt,hg⟩:∃ g,v.heap.size=g:=⟨_,rfl⟩;obtain ⟨w3,hst,X3,B3,-⟩:=madeSx v s2 gt hg;have b33:=bx.trans (B3.mono bx.size);have HB4:=wTr HB1 b33;have C5:=hide (C2.out.below b33);clear C2;have C6:=hide (C3.out.below b33)
   clear C3;have C7:=hide X3;have C8:=hide (Sx.below B3);clear Sx bx X3 B3 b33;obtain ⟨rfl,hE⟩:=zig Hs1.out Hs2.out;have HE1:=hide hE;clear hE;have l0:=zR C5.out;have l1:=zR C7.out;go_wp2_with fail;clear l0 l1 hst hg;refine (kG s1 s2 _ C6.out.ok C8.out.ok HE1.out).mono ?_;rintro e v ⟨rfl,bx⟩;have HB9:=wTr HB4 bx;have C10:=hide (C5.out.below bx);clear C5;have C11:=hide (C6.out.below bx);clear C6;have C12:=hide (C7.out.below bx);clear C7;have C13:=hide (C8.out.below bx);clear C8;clear bx;have l0:=HLd.out _ HB9.out;go_wp2_with fail;clear l0;refine (zci 1 (by decide) F0 _ (HFk.out _ HB9.out)).mono ?_;rintro e v ⟨p1,e3,rfl,Sx,bx,hx⟩;have Hp1:=hide hx;clear hx;obtain ⟨gp,hg⟩:∃ g,v.heap.size=g:=⟨_,rfl⟩;obtain ⟨w3,hst,X3,B3,-⟩:=madeFx v p1 gp hg;have b33:=bx.trans (B3.mono bx.size)
   have HB14:=wTr HB9 b33;have C15:=hide (C10.out.below b33);clear C10;have C16:=hide (C11.out.below b33);clear C11;have C17:=hide (C12.out.below b33);clear C12;have C18:=hide (C13.out.below b33);clear C13;have C19:=hide X3;have C20:=hide (Sx.below B3);clear Sx bx X3 B3 b33;have l0:=HLd.out _ HB14.out;go_wp2_with fail;clear l0 hst hg;refine (yI 1 (by decide) F0 _ (HFk.out _ HB14.out)).mono ?_;rintro e v ⟨p2,e4,rfl,Sx,bx,hx⟩;have Hp2:=hide hx;clear hx;obtain ⟨gq,hg⟩:∃ g,v.heap.size=g:=⟨_,rfl⟩;obtain ⟨w3,hst,X3,B3,-⟩:=madeFx v p2 gq hg;have b33:=bx.trans (B3.mono bx.size);have HB21:=wTr HB14 b33;have C22:=hide (C15.out.below b33);clear C15;have C23:=hide (C16.out.below b33);clear C16;have C24:=hide (C17.out.below b33);clear C17;have C25:=hide (C18.out.below b33);clear C18;have C26:=hide (C19.out.below b33)
   clear C19;have C27:=hide (C20.out.below b33);clear C20;have C28:=hide X3;have C29:=hide (Sx.below B3);clear Sx bx X3 B3 b33;obtain ⟨rfl,hE⟩:=zh2 Hp1.out Hp2.out;have HE2:=hide hE;clear hE;have l0:=zT C26.out;have l1:=zT C28.out;go_wp2_with fail;clear l0 l1 hst hg;refine (kf p1 p2 _ C27.out.ok C29.out.ok HE2.out).mono ?_;rintro e v ⟨rfl,bx⟩;have HB30:=wTr HB21 bx;have C31:=hide (C22.out.below bx);clear C22;have C32:=hide (C23.out.below bx);clear C23;have C33:=hide (C24.out.below bx);clear C24;have C34:=hide (C25.out.below bx);clear C25;have C35:=hide (C26.out.below bx);clear C26;have C36:=hide (C27.out.below bx);clear C27;have C37:=hide (C28.out.below bx);clear C28;have C38:=hide (C29.out.below bx);clear C29;clear bx;have HSt:Hid (∀ W,Below v.heap.size v W -> (ldFa (.pointer (some ⟨g3,k * 4,none⟩))).run Tryz.prog W = .ok (FaV (mkF F0)) W/\(ldSw (.pointer (some ⟨G,12,none⟩))).run Tryz.prog W = .ok (FaV (mkF c.s)) W/\(ldSw (.pointer (some ⟨gt,0,none⟩))).run Tryz.prog W = .ok (FaV (mkF s2)) W):=fun W h=>⟨HLd.out _ (HB30.out.trans (h.mono HB30.out.size)),bS (HX.out.below (HB30.out.trans (h.mono HB30.out.size))).sF,zR (C33.out.below h)⟩
   go_upto_region 15 with fail;obtain ⟨v0,hv0⟩:∃ v0,v.drew=v0:=⟨_,rfl⟩
   have HV0:Hid (Below v.heap.size v v0):=by rw [<- hv0];exact zf v
   refine wp_region_held_drew (S:=fun W=>(ldFa (.pointer (some ⟨g3,k * 4,none⟩))).run Tryz.prog W = .ok (FaV (mkF F0)) W/\(ldSw (.pointer (some ⟨G,12,none⟩))).run Tryz.prog W = .ok (FaV (mkF c.s)) W/\(ldSw (.pointer (some ⟨gt,0,none⟩))).run Tryz.prog W = .ok (FaV (mkF s2)) W) (by kernel_rfl) (HSt.out _ (zf v)) (fun hHeld=>?_);rw [hv0] at hHeld ⊢;clear hv0;refine wU 0 ?_;refine wU 1 ?_;refine wU 2 ?_;refine wU 3 ?_;refine wU 4 ?_;refine wU 5 ?_;refine wU 7 ?_;refine wU 8 ?_;refine wU 9 ?_;refine wU 10 ?_;refine wU 11 ?_;refine wU 12 ?_;refine wpAnyH_ready (rs:=[6]) (by kernel_rfl) (by simp) (.cons rfl (fun K hK=>?_) .nil);go_simp;go_wp2_with fail;refine (zbz 1 1 (by decide) F0 c.s _ (HFk.out _ (HB30.out.trans (HV0.out.mono HB30.out.size))) (HUs.out.below (HB30.out.trans (HV0.out.mono HB30.out.size)))).mono ?_;rintro x v1 ⟨y1,rfl,hy1,b1⟩
   have HV1:=wTr HV0 b1;clear b1;refine hK.out _ _ (HSt.out _ HV1.out) (fun hHeld=>?_);clear hK K;refine wpAnyH_ready (rs:=[13]) (by kernel_rfl) (by simp) (.cons rfl (fun K hK=>?_) .nil);go_simp;go_wp2_with fail;refine (kL 1 (by decide) F0 c.s _ (HFk.out _ (HB30.out.trans (HV1.out.mono HB30.out.size))) (HUs.out.below (HB30.out.trans (HV1.out.mono HB30.out.size))).ok).mono ?_;rintro x v2 ⟨y2,rfl,hy2,b2⟩;obtain rfl:y1=y2:=Bool.eq_iff_iff.2 (hy1.out.trans hy2.out.symm);have HV2:=wTr HV1 b2;clear b2 hy1 hy2;refine hK.out _ _ (HSt.out _ HV2.out) (fun hHeld=>?_);clear hK K
   have hyy:(y1 != y1)=false:=by cases y1 <;> rfl
   refine wU 14 ?_;refine wU 15 ?_;refine wU 16 ?_;refine wU 17 ?_;refine wU 18 ?_;refine wU 19 ?_;refine wU 20 ?_;refine wU 22 ?_;refine wU 23 ?_;refine wU 24 ?_;refine wU 25 ?_;refine wU 26 ?_;refine wpAnyH_ready (rs:=[21]) (by kernel_rfl) (by simp) (.cons rfl (fun K hK=>?_) .nil);go_simp;go_wp2_with fail;refine (zbz 1 1 (by decide) F0 s2 _ (HFk.out _ (HB30.out.trans (HV2.out.mono HB30.out.size))) (C34.out.below HV2.out)).mono ?_;rintro x v3 ⟨y3,rfl,hy3,b3⟩;have HV3:=wTr HV2 b3;clear b3;refine hK.out _ _ (HSt.out _ HV3.out) (fun hHeld=>?_);clear hK K;refine wpAnyH_ready (rs:=[27]) (by kernel_rfl) (by simp) (.cons rfl (fun K hK=>?_) .nil);go_simp;go_wp2_with fail;refine (kL 1 (by decide) F0 s2 _ (HFk.out _ (HB30.out.trans (HV3.out.mono HB30.out.size))) (C34.out.below HV3.out).ok).mono ?_;rintro x v4 ⟨y4,rfl,hy4,b4⟩;obtain rfl:y3=y4:=Bool.eq_iff_iff.2 (hy3.out.trans hy4.out.symm)
   have HV4:=hide (HB30.out.trans ((HV3.out.trans (b4.mono HV3.out.size)).mono HB30.out.size));have HV5:=wTr HV3 b4;clear b4 hy3 hy4;refine hK.out _ _ (HSt.out _ HV5.out) (fun hHeld=>?_);clear hK K
   have hyz:(y3 != y3)=false:=by cases y3 <;> rfl
   refine wU 28 ?_;refine wU 29 ?_;refine wpAnyH_done (by kernel_rfl) ?_ _;clear hHeld;clear hyy hyz HV5 HSt;go_wp2_with fail;go_roundw
   case rel=>exact ⟨k+1,Hlt.out,by simp,HV4.out⟩
   case measure=>simp [intOf];have:=Hlt.out;omega
  ·have hlti:¬ (k:Int) < 3:=by omega
   clear hlt hk;have l0:=bS (HX.out.below HBr.out).sF;go_wp2_with fail;clear l0;refine (zbA 1 (by decide) c.s _ (HUs.out.below HBr.out)).mono ?_;rintro e v ⟨h1,e1,rfl,Sx,bx,hx⟩;have Hh1:=hide hx;clear hx;obtain ⟨gh,hg⟩:∃ g,v.heap.size=g:=⟨_,rfl⟩;obtain ⟨w3,hst,X3,B3,-⟩:=madeFx v h1 gh hg;have b33:=bx.trans (B3.mono bx.size);have HB39:=wTr HBr b33;have C40:=hide X3;have C41:=hide (Sx.below B3);clear Sx bx X3 B3 b33;have l0:=bS (HX.out.below HB39.out).sF;go_wp2_with fail;clear l0 hst hg;refine (yf 1 c.s _ (HUs.out.below HB39.out)).mono ?_;rintro e v ⟨h2,e2,rfl,Sx,bx,hx⟩;have Hh2:=hide hx;clear hx;obtain ⟨gk,hg⟩:∃ g,v.heap.size=g:=⟨_,rfl⟩;obtain ⟨w3,hst,X3,B3,-⟩:=madeFx v h2 gk hg;have b33:=bx.trans (B3.mono bx.size);have HB42:=wTr HB39 b33;have C43:=hide (C40.out.below b33)
   clear C40;have C44:=hide (C41.out.below b33);clear C41;have C45:=hide X3;have C46:=hide (Sx.below B3);clear Sx bx X3 B3 b33;obtain ⟨rfl,hE⟩:=zid Hh1.out Hh2.out;have HE1:=hide hE;clear hE;have l0:=zT C43.out;have l1:=zT C45.out;go_wp2_with fail;clear l0 l1 hst hg;refine (kf h1 h2 _ C44.out.ok C46.out.ok HE1.out).mono ?_;rintro e v ⟨rfl,bx⟩;have HE:=hide (HBK.out.trans ((HB42.out.trans (bx.mono HB42.out.size)).mono HBK.out.size));clear bx;go_wp2_with fail;go_ret;exact ⟨rfl,HE.out⟩
end Go.Proofs.YtjffpimfngdggaaGreat
