/- GOa GAe QLb QNy GRv SXh BEn BPl BCl BAp -/
import Derived.Test.YtaphmhbmhcahaaaGreatTk
import Derived.Test.YtaphmhbmhcahaaaGreatSj12
import Derived.Test.YtaphmhbmhcahaaaGreatSj07
import Derived.Test.YtaphmhbmhcahaaaGreatSj28
import Derived.Test.YtaphmhbmhcahaaaGreatSj27
import Derived.Deep.CutRange
import Derived.Test.YtaphmhbmhcahaaaGreatSj26
import Derived.Test.YtaphmhbmhcahaaaGreatSj16
import Derived.Test.YtaphmhbmhcahaaaGreatSj23
import Derived.Test.YtaphmhbmhcahaaaGreatSj19
set_option maxRecDepth 100000
set_option maxHeartbeats 3200000
namespace Go.Proofs.YtaphmhbmhcahaaaGreat
section
open Go.RowKit
attribute [local go_sem ↓] ldP_eq stP_eq ldFa_eq stFa_eq ldD_eq stD_eq
attribute [local go_sem] cells_PV PC_size cells_FaV FaC_size cells_RV RC_size zero_RC fold_RC
end
section
open Go.RowKit
attribute [local go_sem ↓] ldP_eq stP_eq ldFa_eq stFa_eq ldD_eq stD_eq
attribute [local go_sem] cells_PV PC_size cells_FaV FaC_size cells_RV RC_size zero_RC fold_RC
end
section
open Go.RowKit
attribute [local go_sem ↓] ldP_eq stP_eq ldJ_eq stJ_eq
attribute [local go_sem] zeros_JA cells_JAv zero_PC cells_PV fold_PC PC_size fold_PC1
end
section
open Go.RowKit
attribute [local go_sem ↓] ldP_eq stP_eq ldD_eq stD_eq
attribute [local go_sem] zero_PC cells_PV fold_PC PC_size cells_RV RC_size zero_RC fold_RC
theorem build_D (x y:Int):((RC rn0).setIfInBounds 0 (.int .i64 x)).setIfInBounds 1 (.int .i64 y)=RC ⟨x,y⟩:=rfl
attribute [local go_sem] build_D
def NxtOf (P:Pst) (r lim:Int) (d:Rn) (x:Int):Prop:=(V.isR r=false/\d=rn0/\x=3)∨(V.isR r=true/\∃ k,LastOf P r k/\((min lim 1000000000 <= k/\d=rn0/\x=9)∨(k < min lim 1000000000/\d=⟨r,k+1⟩/\x=0)))
def GivN (w w':World) (e:Ending) (P:Pst) (r lim:Int):Prop:=∃ d x,e = .returned (.tuple #[RV d,.int .i64 x])/\NxtOf P r lim d x/\Below w.heap.size w w'
end
section
open Go.RowKit
attribute [local go_sem ↓] ldP_eq stP_eq ldFa_eq stFa_eq ldD_eq stD_eq
attribute [local go_sem] cells_PV PC_size cells_FaV FaC_size cells_RV RC_size zero_RC fold_RC
end
section
open Go.RowKit
theorem dsB_all (L:List K.En):L.filter (dsB ⟨#[]⟩ (-1))=L:=List.filter_eq_self.2 fun e _=>by unfold dsB;rfl
def HeardOf (f:Fc) (P:Pst):Prop:=InForm P/\∀ r,r < 16 -> ∀ n,mem (runsAt P r) n↔mem (dotsG (f.es.map dotOf) r) n∨mem (runsAt f.p.P r) n
def StOf (f s:Fc):Prop:=s.es=f.es/\HeardOf f s.p.P/\WtOf f.rs s.p.P s.rs
def EvS (f s:Fc) (er:Int):Prop:=(EvOf f er/\er≠0/\s=fz0)∨(EvOf f 0/\er=0/\StOf f s)
attribute [local go_sem ↓] ldP_eq stP_eq ldFa_eq stFa_eq ldSw_eq stSw_eq bldS_eq bsPs_eq
attribute [local go_sem] cells_PV PC_size cells_FaV FaC_size zero_FaZ run_bsPs run_bldS run_bldS0 zero_PC
theorem refHeard_any (f:Fc) (w:World) (hF:FcOk w f) (hFo:FormF f):Calls Tryz.prog 64 #[FaV (mkF f)] w fun e w'=>GivesP w w' e (HeardOf f):=by
 have HFo:=hide hFo;clear hFo;have b1:=below_new w (.cells (FaC (mkF f)) 59);have X1:=FaBox_new w (mkF f);obtain ⟨w1,hw1⟩:∃ w1,w.alloc (.cells (FaC (mkF f)) 59)=w1:=⟨_,rfl⟩
 have hs1:w1.heap.size=w.heap.size+1:=by rw [<- hw1];simp
 rw [hw1] at b1 X1;have x2:PBox (w1.alloc (.cells (PC pv0) 26)) w1.heap.size pv0:=pbox_new w1 pv0;have b2:=below_new w1 (.cells (PC pv0) 26);obtain ⟨w2,hw2⟩:∃ w2,w1.alloc (.cells (PC pv0) 26)=w2:=⟨_,rfl⟩;rw [hw2] at x2 b2;rw [hs1] at x2;obtain ⟨G,hG0⟩:∃ G,w.heap.size=G:=⟨_,rfl⟩;rw [hG0] at X1 x2 hs1;have HX:=hide (X1.below b2);have HZ:=hide x2;have HBK:=hide (b1.trans (b2.mono b1.size));have HF:=hide (hF.below HBK.out);have HGs:Hid (w.heap.size=G):=hG0;clear hF b1 b2 X1 x2;have HSt:Hid (∀ W,FaBox W G (mkF f) -> W.cell? ⟨G,0,none⟩=some (.slice f.ao f.an f.ac)/\(ldP (.pointer (some ⟨G,1,none⟩))).run Tryz.prog W = .ok (PV f.p) W):=fun W h=>⟨h.cs.1,run_ldP h.past⟩;go_enter Tryz.func64,Tryz.ntmps64;go_upto_region 1 with fail;clear hw1 hw2 hs1 hG0;refine wp_region_held_drew (S:=fun W=>W.cell? ⟨G,0,none⟩=some (.slice f.ao f.an f.ac)/\(ldP (.pointer (some ⟨G,1,none⟩))).run Tryz.prog W = .ok (PV f.p) W) (by kernel_rfl) (HSt.out _ (HX.out.below (below_drew1 w2))) (fun hHeld=>?_)
 refine wU 0 ?_;refine wU 1 ?_;refine wU 3 ?_;refine wU 4 ?_;refine wpAnyH_ready (rs:=[2]) (by kernel_rfl) (by simp) (.cons rfl (fun K hK=>?_) .nil);go_simp;go_wp2_with fail;refine (refDots8_any f.ao f.an f.ac f.es ⟨#[]⟩ (-1) _ (HF.out.es.below (below_drew1 w2))).mono ?_;rintro x w4 ⟨d,rfl,Sd,-,b4,Cd⟩;rw [dsB_all] at Cd;have HB4:=hide ((below_drew1 w2).trans (b4.mono (below_drew1 w2).size));have HD:=hide Sd;have HCd:=hide Cd;clear Sd Cd b4;refine hK.out _ _ (HSt.out _ (HX.out.below HB4.out)) (fun hHeld=>?_);clear hK K;refine wpAnyH_ready (rs:=[5]) (by kernel_rfl) (by simp) (.cons rfl (fun K hK=>?_) .nil);have hPR:=prow2 w4 d f.p HD.out (HF.out.p.below HB4.out);have b7:=below_new w4 (.cells #[.slice d.vo d.vn d.vc,.slice d.co d.cn d.cc,.slice f.p.vo f.p.vn f.p.vc,.slice f.p.co f.p.cn f.p.cc] 26);obtain ⟨w7,hw7⟩:∃ w7,w4.alloc (.cells #[.slice d.vo d.vn d.vc,.slice d.co d.cn d.cc,.slice f.p.vo f.p.vn f.p.vc,.slice f.p.co f.p.cn f.p.cc] 26)=w7:=⟨_,rfl⟩
 rw [hw7] at hPR b7;have HPR:=hide hPR;have HB7:=wTr HB4 b7;clear hPR b7;go_simp;refine hK.out _ _ (HSt.out _ (HX.out.below HB7.out)) (fun hHeld=>?_);clear hK K;clear hw7;refine wpAnyH_ready (rs:=[6]) (by kernel_rfl) (by simp) (.cons rfl (fun K hK=>?_) .nil);go_simp;go_wp2_with fail;refine (refJoin_any (some ⟨w4.heap.size,0,none⟩) 2 2 [d,f.p] _ HPR.out (bsP2_wt (canon_iff.1 HCd.out.canon) HFo.out.2.1) (by decide)).mono ?_;rintro x w8 ⟨q,rfl,S8,n8,b8,C8⟩;have HB8:=wTr HB7 b8
 have hz:G+1+1 <= w7.heap.size:=by have:=HZ.out.lt;have:=HB7.out.size;omega
 obtain ⟨s1,e1,e2,e3,e4⟩:=past_end (w:=w) (HZ.out.below HB8.out) S8 (n8.mono hz) (HBK.out.trans (HB8.out.mono HBK.out.size)) (by rw [HGs.out];omega);have HE1:=hide e1;have HXe:Hid (FaBox (w8.setRow (G+1) (PC q)) G (mkF f)):=(setRow_other _ _ _ _ (by omega)).trans (HX.out.below HB8.out)
 have HE:Hid (GivesP w (w8.setRow (G+1) (PC q)) (.returned (PV q)) (HeardOf f)):=⟨q,rfl,e2,e3,e4,canon_iff.1 C8.canon,fun r hr n=>by
  rw [canon_mem C8 r hr n]
  show mem (runsAt d.P r++(runsAt f.p.P r++[])) n↔_
  rw [List.append_nil,mem_append,canon_mem HCd.out r hr n]⟩
 clear S8 n8 b8 C8 e1 e2 e3 e4 hz;refine hK.out _ _ (HSt.out _ (HX.out.below HB8.out)) (fun hHeld=>?_);clear hK K;refine wpAnyH_ready (rs:=[7]) (by kernel_rfl) (by simp) (.cons rfl (fun K hK=>?_) .nil);go_simp;refine hK.out _ _ (HSt.out _ HXe.out) (fun hHeld=>?_);clear hK K;refine wpAnyH_done (by kernel_rfl) ?_ _;clear hHeld;go_wp2_with fail;refine bodyPost_ret (resP1 rfl rfl HE1.out) rfl ?_;exact HE.out
end
end Go.Proofs.YtaphmhbmhcahaaaGreat
namespace Go.Proofs.YtaphmhbmhcahaaaGreat.K
section
open Go.RowKit
attribute [local go_sem ↓] ld28_eq st28_eq ld26_eq
attribute [local go_sem] zero_EC cells_EV
end
section
open Go.RowKit
attribute [local go_sem ↓] ld28_eq st28_eq ld26_eq run_eqD
def DBox (w:World) (g:Nat) (y:En):Prop:=w.heap[g]? = some (.cells (DC y) 43 (0,0))
theorem DBox.lt {w:World} {g:Nat} {y:En} (h:DBox w g y):g < w.heap.size:=(Array.getElem?_eq_some_iff.1 h).1
theorem DBox.below {w w':World} {g:Nat} {y:En} (h:DBox w g y) (hb:Below w.heap.size w w'):DBox w' g y:=(hb.block g h.lt).trans h
def PlA (w w':World) (x:Ending) (B:List En) (y:En):Prop:=∃ z:Int,x = .returned (.int .i64 z)/\Below w.heap.size w w'/\((z = -1/\∀ e∈B,sameDot e y=false)∨∃ k:Nat,k < B.length/\z=(k:Int)/\sameDot (B.getD k en0) y=true)
end
section
open Go.RowKit
attribute [local go_sem ↓] ld28_eq st28_eq ld26_eq run_eq28
theorem eqE_iffK (x y:En):eqE x y=true↔x=y:=by
 obtain ⟨a,b,s,q⟩:=x;obtain ⟨a',b',s',q'⟩:=y;simp only [eqE,Bool.and_eq_true,beq_iff_eq,En.mk.injEq];constructor
 ·rintro ⟨⟨⟨h1,h2⟩,h3⟩,h4⟩;refine ⟨h1,h2,?_,h4⟩;rw [ByteArray.toList_eq,ByteArray.toList_eq] at h3;exact ByteArray.ext (Array.ext' h3)
 ·rintro ⟨h1,h2,h3,h4⟩;exact ⟨⟨⟨h1,h2⟩,by rw [h3]⟩,h4⟩
def CwB (B:List En) (x:En):Prop:=∃ y∈B,sameDot x y=true/\x≠y
def ClA (w w':World) (x:Ending) (A B:List En):Prop:=∃ b:Bool,x = .returned (.bool b)/\(b=true↔Clash (A++B))/\Below w.heap.size w w'
end
end Go.Proofs.YtaphmhbmhcahaaaGreat.K
namespace Go.Proofs.YtaphmhbmhcahaaaGreat
open Go.RowKit
attribute [local go_sem ↓] ldP_eq stP_eq ldRe_eq stRe_eq K.ld28_eq K.st28_eq
attribute [local go_sem] cells_PV PC_size cells_ReV ReC_size K.cells_EV K.EC_size K.zero_EC
variable {w w' w2 W W' : World} {g : Nat}
end Go.Proofs.YtaphmhbmhcahaaaGreat
