/- YFc YEv YEc YEk -/
import Derived.Test.YtjffpimfngdggaaGreatTk
import Derived.Test.YtjffpimfngdggaaGreatFs44
import Derived.Test.YtjffpimfngdggaaGreatFs38
import Derived.Test.YtjffpimfngdggaaGreatFs40
import Derived.Test.YtjffpimfngdggaaGreatFs43
set_option maxRecDepth 100000
set_option maxHeartbeats 3200000
namespace Go.Proofs.YtjffpimfngdggaaGreat
section
open Go.RowKit
def LsX (N:Nat) (w w':World) (x:Ending) (s:Fc):Prop:=∃ h:Fc,x = .returned (FaV (mkF h))/\SwB N w' h/\Below w.heap.size w w'/\XpI s h
def FxE (N:Nat) (w w':World) (x:Ending) (D:Fc -> Int -> Prop):Prop:=∃ h er,x = .returned (.tuple #[FaV (mkF h),.int .i64 er])/\SwB N w' h/\Below w.heap.size w w'/\D h er
section
attribute [local go_sem ↓] zr zq zD zC zL zK xA
attribute [local go_sem] zi zk zl zp zv kI
theorem kg (N:Nat) (s:Fc) (w:World) (hF:SwB N w s):Calls Tryz.prog 37 #[FaV (mkF s)] w fun e w'=>LsX N w w' e s:=by
 have b1:=ze w (.cells (FaC (mkF s)) 31);have X1:=qk w (mkF s);obtain ⟨w1,hw1⟩:∃ w1,w.alloc (.cells (FaC (mkF s)) 31)=w1:=⟨_,rfl⟩
 have hs1:w1.heap.size=w.heap.size+1:=by rw [<- hw1];simp
 rw [hw1] at b1 X1;have x2:FaBox (w1.alloc (.cells (FaC (mkF fz0)) 29)) w1.heap.size (mkF fz0):=zY w1 (mkF fz0);have b2:=ze w1 (.cells (FaC (mkF fz0)) 29);obtain ⟨w2,hw2⟩:∃ w2,w1.alloc (.cells (FaC (mkF fz0)) 29)=w2:=⟨_,rfl⟩;rw [hw2] at x2 b2;rw [hs1] at x2;obtain ⟨G,hG0⟩:∃ G,w.heap.size=G:=⟨_,rfl⟩;rw [hG0] at X1 x2 hs1;have HX:=hide (X1.below b2);have HZ:=hide x2;have HBK:=hide (b1.trans (b2.mono b1.size));have HF:=hide (hF.below HBK.out);have HGs:Hid (w.heap.size=G):=hG0;clear hF b1 b2 X1 x2;have HSt:Hid (∀ W,SwBox W G (mkF s) -> (W.cell? ⟨G,0,none⟩=some (.slice s.ao s.an s.ac)/\W.cell? ⟨G,3,none⟩=some (.slice s.ro s.rn s.rc))/\(ldP (.pointer (some ⟨G,1,none⟩))).run Tryz.prog W = .ok (PV s.p) W):=fun W h=>⟨h.cs,zj h.past⟩;go_enter Tryz.func37,Tryz.ntmps37;go_upto_region 1 with fail;clear hw1 hw2 hs1 hG0
 refine wp_region_held_drew (S:=fun W=>(W.cell? ⟨G,0,none⟩=some (.slice s.ao s.an s.ac)/\W.cell? ⟨G,3,none⟩=some (.slice s.ro s.rn s.rc))/\(ldP (.pointer (some ⟨G,1,none⟩))).run Tryz.prog W = .ok (PV s.p) W) (by kernel_rfl) (HSt.out _ (HX.out.below (zf w2))) (fun hHeld=>?_);refine wU 0 ?_;refine wU 1 ?_;refine wU 2 ?_;refine wU 3 ?_;refine wU 4 ?_;refine wU 5 ?_;refine wU 8 ?_;refine wU 9 ?_;refine wpAnyH_ready (rs:=[6]) (by kernel_rfl) (by simp) (.cons rfl (fun K hK=>?_) .nil);go_simp;go_wp2_with fail;refine (kN s.ao s.an s.ac s.es _ (HF.out.ok.es.below (zf w2))).mono ?_;rintro x w4 ⟨d,rfl,Sd,-,b4,Cd⟩;have HB4:=hide ((zf w2).trans (b4.mono (zf w2).size));have HD:=hide Sd;have HCd:=hide Cd;clear Sd Cd b4;refine hK.out _ _ (HSt.out _ (HX.out.below HB4.out)) (fun hHeld=>?_);clear hK K;refine wpAnyH_ready (rs:=[7]) (by kernel_rfl) (by simp) (.cons rfl (fun K hK=>?_) .nil)
 go_simp;go_wp2_with fail;refine (vT s.p d _ (HF.out.ok.p.below HB4.out) HD.out).mono ?_;rintro x w5 ⟨q,rfl,Sq,-,b5,Cq⟩;have HB5:=wTr HB4 b5;have A5:=HZ.out.below HB5.out;have st:=qG (m':=mkF ⟨s.ao,s.an,s.ac,[],q,s.ro,s.rn,s.rc,[]⟩) A5;have HE1:Hid (FaBox (w5.setRow (G+1) (FaC (mkF ⟨s.ao,s.an,s.ac,[],q,s.ro,s.rn,s.rc,[]⟩))) (G+1) (mkF ⟨s.ao,s.an,s.ac,s.es,q,s.ro,s.rn,s.rc,s.rs⟩)):=A5.setRow;have HXe:Hid (SwBox (w5.setRow (G+1) (FaC (mkF ⟨s.ao,s.an,s.ac,[],q,s.ro,s.rn,s.rc,[]⟩))) G (mkF s)):=(setRow_other _ _ _ _ (by omega)).trans (HX.out.below HB5.out);have hxp:XpI s ⟨s.ao,s.an,s.ac,s.es,q,s.ro,s.rn,s.rc,s.rs⟩:=⟨rfl,(show MnD s.p.P d.P q.P from Cq).form,fun e=>zic (s:=s) (q:=q) ⟨d.P,HCd.out,Cq⟩ e,rfl⟩
 have HE:Hid (LsX N w (w5.setRow (G+1) (FaC (mkF ⟨s.ao,s.an,s.ac,[],q,s.ro,s.rn,s.rc,[]⟩))) (.returned (FaV (mkF ⟨s.ao,s.an,s.ac,s.es,q,s.ro,s.rn,s.rc,s.rs⟩))) s):=
  ⟨⟨s.ao,s.an,s.ac,s.es,q,s.ro,s.rn,s.rc,s.rs⟩,rfl,(show SwB N w5 ⟨s.ao,s.an,s.ac,s.es,q,s.ro,s.rn,s.rc,s.rs⟩ from ⟨⟨HF.out.ok.es.below HB5.out,Sq,HF.out.ok.rs.below HB5.out⟩,HF.out.row,HF.out.rn,HF.out.an,HF.out.cl⟩).offFa A5 _,zh (HBK.out.trans (HB5.out.mono HBK.out.size)) (by rw [HGs.out];omega),hxp⟩
 clear Sq b5 Cq A5 hxp;refine hK.out _ _ (HSt.out _ (HX.out.below HB5.out)) (fun hHeld=>?_);clear hK K;refine wU 10 ?_;refine wpAnyH_ready (rs:=[11]) (by kernel_rfl) (by simp) (.cons rfl (fun K hK=>?_) .nil);go_simp;refine hK.out _ _ (HSt.out _ HXe.out) (fun hHeld=>?_);clear hK K;clear st;refine wpAnyH_done (by kernel_rfl) ?_ _;clear hHeld;go_wp2_with fail;refine bodyPost_ret (res1Fa rfl rfl HE1.out) rfl ?_;exact HE.out
end
attribute [local go_sem ↓] zr zq zD zC zL zK xd xA
attribute [local go_sem] zi zk zE zl zp zv qB qW
theorem wh (N:Nat) (hN:N <= 4) (f:Fc) (w:World) (hS:SwB N w f):Calls Tryz.prog 8 #[FaV (mkF f)] w fun e w'=>CoE N w w' e f:=by
 obtain ⟨wk,hwk,HX,HZ,HBK⟩:=boxFS w f;obtain ⟨G,hG0⟩:∃ G,w.heap.size=G:=⟨_,rfl⟩;rw [hG0] at HX HZ;have HGs:Hid (w.heap.size=G):=hG0;have HF:=hide (hS.below HBK.out);clear hS;have l0:=zT HX.out;go_enter Tryz.func8,Tryz.ntmps8;go_wp2_with fail;clear hwk hG0 l0;refine (jA f _ HF.out.ok).mono ?_;rintro e w3 ⟨b,rfl,hb,b3⟩;have HB3:=hide b3;clear b3
 cases b with
 | false =>
  have A3:=HZ.out.below HB3.out;have st:=xj (m':=mkF fz0) A3;have HE1:Hid (SwBox (w3.setRow (G+1) (FaC (mkF fz0))) (G+1) (mkF fz0)):=A3.setRow;have HE:Hid (CoE N w (w3.setRow (G+1) (FaC (mkF fz0))) (.returned (.tuple #[FaV (mkF fz0),.int .i64 1])) f):=⟨fz0,1,rfl,zbo N _,zh (HBK.out.trans (HB3.out.mono HBK.out.size)) (by rw [HGs.out];omega),.inl ⟨fun h=>(by have:=hb.out.2 h;cases this),rfl,rfl⟩⟩;clear hb A3;go_wp2_with fail;clear st;refine bodyPost_ret (res2Sw rfl rfl rfl HE1.out) rfl ?_;exact HE.out
 | true =>
  have HFf:Hid (FormF f):=hb.out.1 rfl;have l0:=zT (HX.out.below HB3.out);clear hb;go_wp2_with fail;clear l0;refine (jl N hN f _ (HF.out.below HB3.out) HFf.out).mono ?_;rintro e w4 ⟨s,rfl,Ss,b4,hs⟩;have HB4:=wTr HB3 b4;have A4:=HZ.out.below HB4.out;have st:=xj (m':=mkF s) A4;have HE1:Hid (SwBox (w4.setRow (G+1) (FaC (mkF s))) (G+1) (mkF s)):=A4.setRow;have HE:Hid (CoE N w (w4.setRow (G+1) (FaC (mkF s))) (.returned (.tuple #[FaV (mkF s),.int .i64 0])) f):=⟨s,0,rfl,Ss.offWc A4 _,zh (HBK.out.trans (HB4.out.mono HBK.out.size)) (by rw [HGs.out];omega),.inr ⟨HFf.out,rfl,hs⟩⟩;clear Ss b4 hs A4;go_wp2_with fail;clear st;refine bodyPost_ret (res2Sw rfl rfl rfl HE1.out) rfl ?_;exact HE.out
theorem yI (N:Nat) (hN:N <= 4) (f:Fc) (w:World) (hS:SwB N w f):Calls Tryz.prog 11 #[FaV (mkF f)] w fun e w'=>FxE N w w' e (PrF f):=by
 obtain ⟨wk,hwk,HX,HZ,HBK⟩:=boxFF w f;obtain ⟨G,hG0⟩:∃ G,w.heap.size=G:=⟨_,rfl⟩;rw [hG0] at HX HZ;have HGs:Hid (w.heap.size=G):=hG0;have HF:=hide (hS.below HBK.out);clear hS;have l0:=zT HX.out;go_enter Tryz.func11,Tryz.ntmps11;go_wp2_with fail;clear hwk hG0 l0;refine (jA f _ HF.out.ok).mono ?_;rintro e w3 ⟨b,rfl,hb,b3⟩;have HB3:=hide b3;clear b3
 cases b with
 | false =>
  have A3:=HZ.out.below HB3.out;have st:=qG (m':=mkF fz0) A3;have HE1:Hid (FaBox (w3.setRow (G+1) (FaC (mkF fz0))) (G+1) (mkF fz0)):=A3.setRow;have HE:Hid (FxE N w (w3.setRow (G+1) (FaC (mkF fz0))) (.returned (.tuple #[FaV (mkF fz0),.int .i64 1])) (PrF f)):=⟨fz0,1,rfl,zbo N _,zh (HBK.out.trans (HB3.out.mono HBK.out.size)) (by rw [HGs.out];omega),.inl ⟨fun h=>(by have:=hb.out.2 h;cases this),rfl,rfl⟩⟩;clear hb A3;go_wp2_with fail;clear st;refine bodyPost_ret (res2Fb rfl rfl rfl HE1.out) rfl ?_;exact HE.out
 | true =>
  have HFf:Hid (FormF f):=hb.out.1 rfl;have l0:=zT (HX.out.below HB3.out);clear hb;go_wp2_with fail;clear l0;refine (jl N hN f _ (HF.out.below HB3.out) HFf.out).mono ?_;rintro e w4 ⟨s,rfl,Ss,b4,hs⟩;have HB4:=wTr HB3 b4;have HSs:=hide Ss;have Hs:=hide hs;clear Ss b4 hs;go_wp2_with fail;refine (kg N s _ HSs.out).mono ?_;rintro e w5 ⟨h,rfl,Sh,b5,hx⟩;have HB5:=wTr HB4 b5;have A5:=HZ.out.below HB5.out;have st:=qG (m':=mkF h) A5;have HE1:Hid (FaBox (w5.setRow (G+1) (FaC (mkF h))) (G+1) (mkF h)):=A5.setRow;have HE:Hid (FxE N w (w5.setRow (G+1) (FaC (mkF h))) (.returned (.tuple #[FaV (mkF h),.int .i64 0])) (PrF f)):=⟨h,0,rfl,Sh.offFa A5 _,zh (HBK.out.trans (HB5.out.mono HBK.out.size)) (by rw [HGs.out];omega),.inr ⟨HFf.out,rfl,s,Hs.out,hx⟩⟩;clear Sh b5 hx A5;go_wp2_with fail;clear st
  refine bodyPost_ret (res2Fb rfl rfl rfl HE1.out) rfl ?_;exact HE.out
theorem yf (N:Nat) (s:Fc) (w:World) (hS:SwB N w s):Calls Tryz.prog 16 #[FaV (mkF s)] w fun e w'=>FxE N w w' e (ExF s):=by
 obtain ⟨wk,hwk,HX,HZ,HBK⟩:=boxSF w s;obtain ⟨G,hG0⟩:∃ G,w.heap.size=G:=⟨_,rfl⟩;rw [hG0] at HX HZ;have HGs:Hid (w.heap.size=G):=hG0;have HF:=hide (hS.below HBK.out);clear hS;have l0:=zR HX.out;go_enter Tryz.func16,Tryz.ntmps16;go_wp2_with fail;clear hwk hG0 l0;refine (vG s _ HF.out.ok).mono ?_;rintro e w3 ⟨b,rfl,hb,b3⟩;have HB3:=hide b3;clear b3
 cases b with
 | false =>
  have A3:=HZ.out.below HB3.out;have st:=qG (m':=mkF fz0) A3;have HE1:Hid (FaBox (w3.setRow (G+1) (FaC (mkF fz0))) (G+1) (mkF fz0)):=A3.setRow;have HE:Hid (FxE N w (w3.setRow (G+1) (FaC (mkF fz0))) (.returned (.tuple #[FaV (mkF fz0),.int .i64 1])) (ExF s)):=⟨fz0,1,rfl,zbo N _,zh (HBK.out.trans (HB3.out.mono HBK.out.size)) (by rw [HGs.out];omega),.inl ⟨fun h=>(by have:=hb.out.2 h;cases this),rfl,rfl⟩⟩;clear hb A3;go_wp2_with fail;clear st;refine bodyPost_ret (res2Fb rfl rfl rfl HE1.out) rfl ?_;exact HE.out
 | true =>
  have HFs:Hid (FormS s):=hb.out.1 rfl;have l0:=zR (HX.out.below HB3.out);clear hb;go_wp2_with fail;clear l0;refine (kg N s _ (HF.out.below HB3.out)).mono ?_;rintro e w5 ⟨h,rfl,Sh,b5,hx⟩;have HB5:=wTr HB3 b5;have A5:=HZ.out.below HB5.out;have st:=qG (m':=mkF h) A5;have HE1:Hid (FaBox (w5.setRow (G+1) (FaC (mkF h))) (G+1) (mkF h)):=A5.setRow;have HE:Hid (FxE N w (w5.setRow (G+1) (FaC (mkF h))) (.returned (.tuple #[FaV (mkF h),.int .i64 0])) (ExF s)):=⟨h,0,rfl,Sh.offFa A5 _,zh (HBK.out.trans (HB5.out.mono HBK.out.size)) (by rw [HGs.out];omega),.inr ⟨HFs.out,rfl,hx⟩⟩;clear Sh b5 hx A5;go_wp2_with fail;clear st;refine bodyPost_ret (res2Fb rfl rfl rfl HE1.out) rfl ?_;exact HE.out
theorem zbA (N:Nat) (hN:N <= 4) (s:Fc) (w:World) (hS:SwB N w s):Calls Tryz.prog 15 #[FaV (mkF s)] w fun e w'=>FxE N w w' e (ExF s):=by
 by_cases hf:FormS s
 ·refine (wf N hN s w hS hf).mono ?_;rintro e w' ⟨h,rfl,Sh,b,hx⟩;exact ⟨h,0,rfl,Sh,b,.inr ⟨hf,rfl,zhq hx⟩⟩
 obtain ⟨wk,hwk,HX,HZ,HBK⟩:=boxSF w s;obtain ⟨G,hG0⟩:∃ G,w.heap.size=G:=⟨_,rfl⟩;rw [hG0] at HX HZ;have HGs:Hid (w.heap.size=G):=hG0;have HU:=hide ((hS.below HBK.out).u hN);have HFs:=hide hf;clear hS hf;have l0:=zR HX.out;go_enter Tryz.func15,Tryz.ntmps15;go_wp2_with fail;clear hwk hG0 l0;refine (HU.out.chk).mono ?_;rintro e w3 ⟨z,rfl,hz,b3⟩
 obtain rfl:z=1:=by
  rcases hz with ⟨h,-⟩ | ⟨-,h⟩
  ·exact absurd h HFs.out
  ·exact h
 have HB3:=hide b3;have A3:=HZ.out.below HB3.out;have st:=qG (m':=mkF fz0) A3;have HE1:Hid (FaBox (w3.setRow (G+1) (FaC (mkF fz0))) (G+1) (mkF fz0)):=A3.setRow;have HE:Hid (FxE N w (w3.setRow (G+1) (FaC (mkF fz0))) (.returned (.tuple #[FaV (mkF fz0),.int .i64 1])) (ExF s)):=⟨fz0,1,rfl,zbo N _,zh (HBK.out.trans (HB3.out.mono HBK.out.size)) (by rw [HGs.out];omega),.inl ⟨HFs.out,rfl,rfl⟩⟩;clear b3 hz A3;go_wp2_with fail;clear st;refine bodyPost_ret (res2Fb rfl rfl rfl HE1.out) rfl ?_;exact HE.out
theorem zci (N:Nat) (hN:N <= 4) (f:Fc) (w:World) (hS:SwB N w f):Calls Tryz.prog 10 #[FaV (mkF f)] w fun e w'=>∃ h er,e = .returned (.tuple #[FaV (mkF h),.int .i64 er])/\SwB N w' h/\Below w.heap.size w w'/\PrF f h er:=by
 obtain ⟨wk,hwk,HX,HZ,HBK⟩:=boxFF w f;obtain ⟨G,hG0⟩:∃ G,w.heap.size=G:=⟨_,rfl⟩;rw [hG0] at HX HZ;have HGs:Hid (w.heap.size=G):=hG0;have HF:=hide (hS.below HBK.out);clear hS;have l0:=zT HX.out;go_enter Tryz.func10,Tryz.ntmps10;go_wp2_with fail;clear hwk hG0 l0;refine (jT N hN f _ HF.out).mono ?_;rintro e v3 ⟨s,er,rfl,Ss,b3,hs⟩;obtain ⟨gs,hgs⟩:∃ g,v3.heap.size=g:=⟨_,rfl⟩;obtain ⟨w3,hst,X3,B3,-⟩:=madeSx v3 s gs hgs;have b33:=b3.trans (B3.mono b3.size);have HB3:=hide b33;have HXs:=hide X3;have HSs:=hide (Ss.below B3);have Hs:=hide hs;clear Ss b3 hs X3 B3 b33;rcases Hs.out with ⟨h1,rfl,-⟩ | ⟨h1,rfl,h2⟩
 ·have A3:=HZ.out.below HB3.out;have st:=qG (m':=mkF fz0) A3;have HE1:Hid (FaBox (w3.setRow (G+1) (FaC (mkF fz0))) (G+1) (mkF fz0)):=A3.setRow;have HE:Hid (∃ h er,Ending.returned (.tuple #[FaV (mkF fz0),.int .i64 1]) = .returned (.tuple #[FaV (mkF h),.int .i64 er])/\SwB N (w3.setRow (G+1) (FaC (mkF fz0))) h/\Below w.heap.size w (w3.setRow (G+1) (FaC (mkF fz0)))/\PrF f h er):=⟨fz0,1,rfl,zbo N _,zh (HBK.out.trans (HB3.out.mono HBK.out.size)) (by rw [HGs.out];omega),.inl ⟨h1,rfl,rfl⟩⟩;clear h1 A3 Hs;go_wp2_with fail;clear st hst hgs;refine bodyPost_ret (res2Fb rfl rfl rfl HE1.out) rfl ?_;exact HE.out
 ·have HFf:=hide h1;have HDs:=hide h2;have HFs:Hid (FormS s):=zbK HSs.out.ok HF.out.ok.es.1 HF.out.ok.rs.len h1 h2;have l0:=zR HXs.out;clear h1 h2 Hs;go_wp2_with fail;clear l0 hst hgs;refine (wf N hN s _ HSs.out HFs.out).mono ?_;rintro e w4 ⟨h,rfl,Sh,b4,hx⟩;have HB4:=wTr HB3 b4;have A4:=HZ.out.below HB4.out;have st:=qG (m':=mkF h) A4;have HE1:Hid (FaBox (w4.setRow (G+1) (FaC (mkF h))) (G+1) (mkF h)):=A4.setRow;have HE:Hid (∃ h' er,Ending.returned (.tuple #[FaV (mkF h),.int .i64 0]) = .returned (.tuple #[FaV (mkF h'),.int .i64 er])/\SwB N (w4.setRow (G+1) (FaC (mkF h))) h'/\Below w.heap.size w (w4.setRow (G+1) (FaC (mkF h)))/\PrF f h' er):=⟨h,0,rfl,Sh.offFa A4 _,zh (HBK.out.trans (HB4.out.mono HBK.out.size)) (by rw [HGs.out];omega),.inr ⟨HFf.out,rfl,s,HDs.out,zhq hx⟩⟩;clear Sh b4 hx A4
  go_wp2_with fail;clear st;refine bodyPost_ret (res2Fb rfl rfl rfl HE1.out) rfl ?_;exact HE.out
theorem kL (N:Nat) (hN:N <= 4) (f t:Fc) (w:World) (hF:SwB N w f) (hT:FcOk w t):Calls Tryz.prog 14 #[FaV (mkF f),FaV (mkF t)] w fun e w'=>GivB w w' e (SmD f t):=by
 obtain ⟨wk,hwk,HX,HY,HBK⟩:=boxFS2 w f t;obtain ⟨G,hG0⟩:∃ G,w.heap.size=G:=⟨_,rfl⟩;rw [hG0] at HX HY;have HF:=hide (hF.below HBK.out);have HT:=hide (hT.below HBK.out);have hN:=hide hN;clear hF hT;have HSt:Hid (∀ W,Below wk.heap.size wk W -> (ldFa (.pointer (some ⟨G,0,none⟩))).run Tryz.prog W = .ok (FaV (mkF f)) W/\(ldSw (.pointer (some ⟨G+1,0,none⟩))).run Tryz.prog W = .ok (FaV (mkF t)) W):=fun W h=>⟨zT (HX.out.below h),zR (HY.out.below h)⟩;go_enter Tryz.func14,Tryz.ntmps14;go_upto_region 1 with fail;clear hwk hG0;refine wp_region_held_drew (S:=fun W=>(ldFa (.pointer (some ⟨G,0,none⟩))).run Tryz.prog W = .ok (FaV (mkF f)) W/\(ldSw (.pointer (some ⟨G+1,0,none⟩))).run Tryz.prog W = .ok (FaV (mkF t)) W) (by kernel_rfl) (HSt.out _ (zf wk)) (fun hHeld=>?_);refine wU 0 ?_;refine wpAnyH_ready (rs:=[1]) (by kernel_rfl) (by simp) (.cons rfl (fun K hK=>?_) .nil)
 go_simp;go_wp2_with fail;refine (jA f _ (HF.out.ok.below (zf wk))).mono ?_;rintro x w3 ⟨b,rfl,hb,b3⟩;have HB3:=hide ((zf wk).trans (b3.mono (zf wk).size));clear b3;refine hK.out _ _ (HSt.out _ HB3.out) (fun hHeld=>?_);clear hK K;refine wU 2 ?_
 cases b with
 | false =>
  have HN:Hid (¬ SmD f t):=fun h=>(by have:=hb.out.2 h.1;cases this);have HE:=wTr HBK HB3.out;clear hb;refine wV 3 ?_;refine wV 4 ?_;refine wV 5 ?_;refine wV 6 ?_;refine wU 7 ?_;refine wU 8 ?_;refine wpAnyH_done (by kernel_rfl) ?_ _;clear hHeld;go_wp2_with fail;go_ret;exact ⟨_,rfl,BIf.no HN.out,HE.out⟩
 | true =>
  have HFf:Hid (FormF f):=hb.out.1 rfl;clear hb;refine wU 3 ?_;refine wU 5 ?_;refine wpAnyH_ready (rs:=[4]) (by kernel_rfl) (by simp) (.cons rfl (fun K hK=>?_) .nil);go_simp;go_wp2_with fail;refine (jl N hN.out f _ (HF.out.below HB3.out) HFf.out).mono ?_;rintro x w4 ⟨s,rfl,Ss,b4,hs⟩;have HB4:=wTr HB3 b4;have HSs:=hide Ss;have Hs:=hide hs;clear Ss b4 hs;refine hK.out _ _ (HSt.out _ HB4.out) (fun hHeld=>?_);clear hK K;refine wpAnyH_ready (rs:=[6]) (by kernel_rfl) (by simp) (.cons rfl (fun K hK=>?_) .nil);go_simp;go_wp2_with fail;refine (sameSwot4F s t _ HSs.out.ok (HT.out.below HB4.out)).mono ?_;rintro x w5 ⟨b,rfl,hb,b5⟩;have HB5:=wTr HB4 b5;have HE:Hid (BIf b (SmD f t)):=⟨fun h=>(bD HFf.out Hs.out).2 (hb.out.1 h),fun h=>hb.out.2 ((bD HFf.out Hs.out).1 h)⟩;clear b5 hb;refine hK.out _ _ (HSt.out _ HB5.out) (fun hHeld=>?_)
  clear hK K;refine wU 7 ?_;refine wU 8 ?_;refine wpAnyH_done (by kernel_rfl) ?_ _;clear hHeld;have HE2:=wTr HBK HB5.out;go_wp2_with fail;go_ret;exact ⟨_,rfl,HE.out,HE2.out⟩
theorem zbz (N M:Nat) (hNM:N+M <= 4) (f t:Fc) (w:World) (hF:SwB N w f) (hT:SwB M w t):Calls Tryz.prog 13 #[FaV (mkF f),FaV (mkF t)] w fun e w'=>GivB w w' e (SmD f t):=by
 obtain ⟨wk,hwk,HX,HY,HBK⟩:=boxFS2 w f t;obtain ⟨G,hG0⟩:∃ G,w.heap.size=G:=⟨_,rfl⟩;rw [hG0] at HX HY;have HF:=hide (hF.below HBK.out);have HT:=hide (hT.below HBK.out);clear hF hT;have l0:=zT HX.out;go_enter Tryz.func13,Tryz.ntmps13;go_wp2_with fail;clear hwk hG0 l0;refine (jT N (by omega) f _ HF.out).mono ?_;rintro e v3 ⟨s,er,rfl,Ss,b3,hs⟩;obtain ⟨gs,hgs⟩:∃ g,v3.heap.size=g:=⟨_,rfl⟩;obtain ⟨w3,hst,X3,B3,-⟩:=madeSx v3 s gs hgs;have b33:=b3.trans (B3.mono b3.size);have HB3:=hide b33;have HXs:=hide X3;have HSs:=hide (Ss.below B3);have Hs:=hide hs;clear Ss b3 hs X3 B3 b33;rcases Hs.out with ⟨h1,rfl,rfl⟩ | ⟨h1,rfl,h2⟩
 ·have HN:Hid (¬ SmD f t):=fun h=>h1 h.1;have HE:=wTr HBK HB3.out;clear h1 Hs;go_wp2_with fail;clear hst hgs;go_ret;exact ⟨_,rfl,BIf.no HN.out,HE.out⟩
 have HFf:=hide h1;have HSd:=hide h2;clear h1 h2 Hs;have l0:=zR HXs.out;have l1:=zR (HY.out.below HB3.out);go_wp2_with fail;clear l0 l1 hst hgs;refine (wR N M hNM s t _ HSs.out (HT.out.below HB3.out)).mono ?_;rintro e w4 ⟨o,er,rfl,b4,ho⟩;have HB4:=hide (HBK.out.trans ((HB3.out.trans (b4.mono HB3.out.size)).mono HBK.out.size));have fs0:FormS s:=zbK HSs.out.ok HF.out.ok.es.1 HF.out.ok.rs.len HFf.out HSd.out
 have HEq:Hid (SmD f t -> ab s=ab t):=fun h=>by
  have e:=(bD HFf.out HSd.out).1 h;exact zdm e.1 e.2.1 e.2.2
 have HFa:Hid (FmA (ab s)):=(vX HSs.out.ok).1 fs0;have Ho:=hide ho;clear b4 ho fs0;rcases Ho.out with ⟨h,rfl,rfl⟩ | ⟨-,h,rfl,rfl⟩ | ⟨-,-,rfl,k⟩
 ·have HN:Hid (¬ SmD f t):=fun q=>h ⟨(vX HSs.out.ok).2 HFa.out,(vX HT.out.ok).2 (by rw [<- HEq.out q];exact HFa.out)⟩;clear h Ho;go_wp2_with fail;go_ret;exact ⟨_,rfl,BIf.no HN.out,HB4.out⟩
 ·have HN:Hid (¬ SmD f t):=fun q=>zah HFa.out (by have e2:s.es=t.es:=congrArg Ab.L (HEq.out q);rw [<- e2] at h;exact h);clear h Ho;go_wp2_with fail;go_ret;exact ⟨_,rfl,BIf.no HN.out,HB4.out⟩
 ·rcases k with ⟨k1,k2,rfl⟩ | ⟨-,k,rfl⟩ | ⟨k,-,rfl⟩ | ⟨k,-,rfl⟩
  ·have HY2:Hid (SmD f t):=(bD HFf.out HSd.out).2 (by have e:=zh7 k1 k2;exact ⟨congrArg Ab.L e,congrArg Ab.P e,congrArg Ab.R e⟩);clear k1 k2 Ho;go_wp2_with fail;go_ret;exact ⟨_,rfl,BIf.yes HY2.out,HB4.out⟩
  ·have HN:Hid (¬ SmD f t):=fun q=>k (show LeS t s by unfold LeS;rw [HEq.out q];have fa:=HFa.out;rw [HEq.out q] at fa;exact le_refl fa);clear k Ho;go_wp2_with fail;go_ret;exact ⟨_,rfl,BIf.no HN.out,HB4.out⟩
  ·have HN:Hid (¬ SmD f t):=fun q=>k (show LeS s t by unfold LeS;rw [HEq.out q];have fa:=HFa.out;rw [HEq.out q] at fa;exact le_refl fa);clear k Ho;go_wp2_with fail;go_ret;exact ⟨_,rfl,BIf.no HN.out,HB4.out⟩
  ·have HN:Hid (¬ SmD f t):=fun q=>k (show LeS s t by unfold LeS;rw [HEq.out q];have fa:=HFa.out;rw [HEq.out q] at fa;exact le_refl fa);clear k Ho;go_wp2_with fail;go_ret;exact ⟨_,rfl,BIf.no HN.out,HB4.out⟩
end
section
open Go.ChangeShapes Go.WideShapes Go.ChangeAt Go.RowKit Go.Joins
variable {w w' W : World} {g : Nat}
structure Cz where
 f:Fc
 g:Fc
 h:Fc
 s:Fc
 v:Value
 u:Value
def CzC (c:Cz):Array Value:=#[.slice c.f.ao c.f.an c.f.ac,.slice c.f.p.vo c.f.p.vn c.f.p.vc,.slice c.f.p.co c.f.p.cn c.f.p.cc,.slice c.f.ro c.f.rn c.f.rc,
 .slice c.g.ao c.g.an c.g.ac,.slice c.g.p.vo c.g.p.vn c.g.p.vc,.slice c.g.p.co c.g.p.cn c.g.p.cc,.slice c.g.ro c.g.rn c.g.rc,
 .slice c.h.ao c.h.an c.h.ac,.slice c.h.p.vo c.h.p.vn c.h.p.vc,.slice c.h.p.co c.h.p.cn c.h.p.cc,.slice c.h.ro c.h.rn c.h.rc,
 .slice c.s.ao c.s.an c.s.ac,.slice c.s.p.vo c.s.p.vn c.s.p.vc,.slice c.s.p.co c.s.p.cn c.s.p.cc,.slice c.s.ro c.s.rn c.s.rc,c.v,c.u]
abbrev CzV (c:Cz):Value:=.agg (CzC c)
theorem zaM (c:Cz):(CzC c).size=18:=rfl
theorem yA (c:Cz):(CzV c).cells=CzC c:=by simp [Value.cells]
def CzBox (w:World) (g:Nat) (c:Cz):Prop:=w.heap[g]? = some (.cells (CzC c) 34 (0,0))
theorem CzBox.lt {c:Cz} (h:CzBox w g c):g < w.heap.size:=(Array.getElem?_eq_some_iff.1 h).1
theorem CzBox.below {c:Cz} (h:CzBox w g c) (hb:Below w.heap.size w w'):CzBox w' g c:=(hb.block g h.lt).trans h
theorem zfK (w:World) (c:Cz):CzBox (w.alloc (.cells (CzC c) 34)) w.heap.size c:=by unfold CzBox;rw [heap_alloc_new]
theorem CzBox.fF {c:Cz} (h:CzBox w g c):FaAt w ⟨g,0,none⟩ (mkF c.f):=by
 unfold CzBox at h;refine ⟨?_,?_,?_,?_⟩ <;> simp [Addr.add,World.cell?,h,CzC,mkF]
theorem CzBox.gF {c:Cz} (h:CzBox w g c):FaAt w ⟨g,4,none⟩ (mkF c.g):=by
 unfold CzBox at h;refine ⟨?_,?_,?_,?_⟩ <;> simp [Addr.add,World.cell?,h,CzC,mkF]
theorem CzBox.hF {c:Cz} (h:CzBox w g c):FaAt w ⟨g,8,none⟩ (mkF c.h):=by
 unfold CzBox at h;refine ⟨?_,?_,?_,?_⟩ <;> simp [Addr.add,World.cell?,h,CzC,mkF]
structure CzU (W:World) (c:Cz):Prop where
 f:FcU W c.f
 g:FcU W c.g
 h:FcU W c.h
 s:FcU W c.s
theorem cellsCz:Tryz.prog.cellsOf 34=18:=by kernel_rfl
theorem cellsDs:Tryz.prog.cellsOf 32=1:=by kernel_rfl
theorem list18 {α : Type} {l:List α} (h:l.length=18):∃ a0 a1 a2 a3 b0 b1 b2 b3 c0 c1 c2 c3 d0 d1 d2 d3 e0 e1,l=[a0,a1,a2,a3,b0,b1,b2,b3,c0,c1,c2,c3,d0,d1,d2,d3,e0,e1]:=by
 match l,h with
 | [a0,a1,a2,a3,b0,b1,b2,b3,c0,c1,c2,c3,d0,d1,d2,d3,e0,e1],_=>exact ⟨_,_,_,_,_,_,_,_,_,_,_,_,_,_,_,_,_,_,rfl⟩
theorem list6 {α : Type} {l:List α} (h:l.length=6):∃ a0 a1 a2 a3 a4 a5,l=[a0,a1,a2,a3,a4,a5]:=by
 match l,h with
 | [a0,a1,a2,a3,a4,a5],_=>exact ⟨_,_,_,_,_,_,rfl⟩
theorem zdF {H:Type} {enc:TypeId × Value -> H} {W:World} {fuel:Nat} {cs:List Value} {x:DataW H × List MemPlace}
  (h:DataW.trod enc Tryz.prog W 0 (fun _=>true) true fuel 34 cs=some x) (hw:Rows.uptoBulk x.1 <= 1048576):∃ c:Cz,cs=(CzC c).toList/\CzU W c:=by
 obtain ⟨xs,m,_,hx,hcl,hxl,hf⟩:=DataW.trod_struct Tryz.underlying34 h;obtain ⟨a0,a1,a2,a3,b0,b1,b2,b3,c0,c1,c2,c3,d0,d1,d2,d3,e0,e1,rfl⟩:=list18 (hcl.trans cellsCz);obtain ⟨y0,y1,y2,y3,y4,y5,rfl⟩:=list6 hxl;have t0:=hf 0 _ rfl;have t1:=hf 1 _ rfl;have t2:=hf 2 _ rfl;have t3:=hf 3 _ rfl;simp [cellsFa,cellsSw] at t0 t1 t2 t3;subst hx;simp only [Rows.uptoBulk,List.map_cons,List.map_nil,Rows.uptoBulkAll] at hw;obtain ⟨f,ef,Sf⟩:=ks t0 (by omega);obtain ⟨g,eg,Sg⟩:=ks t1 (by omega);obtain ⟨k,eh,Sh⟩:=ks t2 (by omega);obtain ⟨s,es,Ss⟩:=zdD t3 (by omega);simp only [FaC,mkF,List.cons.injEq,and_true] at ef eg eh es;obtain ⟨rfl,rfl,rfl,rfl⟩:=ef;obtain ⟨rfl,rfl,rfl,rfl⟩:=eg;obtain ⟨rfl,rfl,rfl,rfl⟩:=eh;obtain ⟨rfl,rfl,rfl,rfl⟩:=es;exact ⟨⟨f,g,k,s,e0,e1⟩,rfl,Sf,Sg,Sh,Ss⟩
end
section
open Go.RowKit
attribute [local go_sem ↓] zD zC zL zK
attribute [local go_sem] zl zp zv yA zaM
end
section
open Go.RowKit
theorem CzBox.sF {w:World} {g:Nat} {c:Cz} (h:CzBox w g c):FaAt w ⟨g,12,none⟩ (mkF c.s):=by
 unfold CzBox at h;refine ⟨?_,?_,?_,?_⟩ <;> simp [Addr.add,World.cell?,h,CzC,mkF]
attribute [local go_sem ↓] zD zC zL zK zeY zef
attribute [local go_sem] zl zp zv yA zaM zbv zdn zcs
end
end Go.Proofs.YtjffpimfngdggaaGreat
