/- GRf GOa GAe QLb QNy GRv SXh BEn BPl BCl BAp BLf BMg -/
import Derived.Test.YtjeilkenjdnafaaGreatTk
import Derived.Test.YtjeilkenjdnafaaGreatDk16
import Derived.Test.YtjeilkenjdnafaaGreatDk25
import Derived.Test.YtjeilkenjdnafaaGreatDk36
import Derived.Test.YtjeilkenjdnafaaGreatDk09
import Derived.Test.YtjeilkenjdnafaaGreatDk34
import Derived.Test.YtjeilkenjdnafaaGreatDk35
import Derived.Deep.CutRange
import Derived.Test.YtjeilkenjdnafaaGreatDk33
import Derived.Test.YtjeilkenjdnafaaGreatDk20
import Derived.Test.YtjeilkenjdnafaaGreatDk30
import Derived.Test.YtjeilkenjdnafaaGreatDk32
import Derived.Test.YtjeilkenjdnafaaGreatDk27
set_option maxRecDepth 100000
set_option maxHeartbeats 3200000
namespace Go.Proofs.YtjeilkenjdnafaaGreat
section
open Go.RowKit
attribute [local go_sem ↓] ldP_eq stP_eq ldFa_eq stFa_eq ldD_eq stD_eq
attribute [local go_sem] cells_PV PC_size cells_FaV FaC_size cells_RV RC_size zero_RC fold_RC
theorem refFacts_any (f:Fc) (w:World) (hF:FcOk w f):Calls Tryz.prog 23 #[FaV (mkF f)] w fun e w'=>GivB w w' e (FormF f):=by
 have HX:=hide (FaBox_new w (mkF f));have HBK:=hide (below_new w (.cells (FaC (mkF f)) 29));have HS:=hide (hF.below HBK.out);clear hF;obtain ⟨wk,hwk⟩:∃ wk,w.alloc (.cells (FaC (mkF f)) 29)=wk:=⟨_,rfl⟩;obtain ⟨G,hG⟩:∃ G,w.heap.size=G:=⟨_,rfl⟩;rw [hwk] at HX HBK HS;rw [hG] at HX;obtain ⟨c0,c3⟩:=HX.out.cs;have lp:=run_ldP HX.out.past;have lf:=run_ldFa HX.out;go_enter Tryz.func23,Tryz.ntmps23;go_wp2_with fail;clear hwk hG;refine (K.refEntries_any f.ao f.an f.ac f.es _ HS.out.es).mono ?_;rintro e w2 ⟨rfl,b2⟩;have HB2:=wTr HBK b2;have HX2:=hide (HX.out.below b2);have HS2:=hide (HS.out.below b2);clear b2 c0 c3 lp lf HX HS HBK
 cases hc:K.okN f.es f.an with
 | false =>
  have HN:Hid (¬ FormF f):=fun h=>by have h1:=h.1;rw [hc] at h1;cases h1
  clear hc;go_wp2_with fail;go_ret;exact ⟨_,rfl,BIf.no HN.out,HB2.out⟩
 | true =>
  have HC:=hide hc;have lp:=run_ldP HX2.out.past;clear hc;go_wp2_with fail;refine (refIsNorm_any f.p _ HS2.out.p).mono ?_;rintro e w3 ⟨b,rfl,hb,b3⟩;have HB3:=wTr HB2 b3;have HX3:=hide (HX2.out.below b3);have HS3:=hide (HS2.out.below b3);clear b3 lp HX2 HS2 HB2
  cases b with
  | false =>
   have HN:Hid (¬ FormF f):=fun h=>(by have:=hb.out.2 h.2.1;cases this);clear hb;go_wp2_with fail;go_ret;exact ⟨_,rfl,BIf.no HN.out,HB3.out⟩
  | true =>
   have HI:Hid (InForm f.p.P):=hb.out.1 rfl;have c3:=HX3.out.cs.2;clear hb;go_wp2_with fail;refine (refRecords_any f.ro f.rn f.rc f.rs _ HS3.out.rs).mono ?_;rintro e w4 ⟨b,rfl,hb,b4⟩;have HF:Hid (BIf b (FormF f)/\Below w.heap.size w w4):=⟨⟨fun h=>⟨HC.out,HI.out,hb.out.1 h⟩,fun h=>hb.out.2 h.2.2⟩,HB3.out.trans (b4.mono HB3.out.size)⟩;clear hb b4 c3
   cases b with
   | true =>
    go_wp2_with fail;go_ret;exact ⟨_,rfl,HF.out.1,HF.out.2⟩
   | false =>
    go_wp2_with fail;go_ret;exact ⟨_,rfl,HF.out.1,HF.out.2⟩
end
section
open Go.RowKit
attribute [local go_sem ↓] ldP_eq stP_eq ldFa_eq stFa_eq ldD_eq stD_eq
attribute [local go_sem] cells_PV PC_size cells_FaV FaC_size cells_RV RC_size zero_RC fold_RC
end
section
open Go.RowKit
attribute [local go_sem ↓] ldP_eq stP_eq ldFa_eq stFa_eq ldD_eq stD_eq
attribute [local go_sem] cells_PV PC_size cells_FaV FaC_size cells_RV RC_size zero_RC fold_RC
end
section
open Go.RowKit
attribute [local go_sem ↓] ldP_eq stP_eq ldJ_eq stJ_eq
attribute [local go_sem] zeros_JA cells_JAv zero_PC cells_PV fold_PC PC_size fold_PC1
end
section
open Go.RowKit
attribute [local go_sem ↓] ldP_eq stP_eq ldD_eq stD_eq
attribute [local go_sem] zero_PC cells_PV fold_PC PC_size cells_RV RC_size zero_RC fold_RC
theorem build_D (x y:Int):((RC rn0).setIfInBounds 0 (.int .i64 x)).setIfInBounds 1 (.int .i64 y)=RC ⟨x,y⟩:=rfl
attribute [local go_sem] build_D
def NxtOf (P:Pst) (r lim:Int) (d:Rn) (x:Int):Prop:=(V.isR r=false/\d=rn0/\x=3)∨(V.isR r=true/\∃ k,LastOf P r k/\((min lim 1000000000 <= k/\d=rn0/\x=9)∨(k < min lim 1000000000/\d=⟨r,k+1⟩/\x=0)))
def GivN (w w':World) (e:Ending) (P:Pst) (r lim:Int):Prop:=∃ d x,e = .returned (.tuple #[RV d,.int .i64 x])/\NxtOf P r lim d x/\Below w.heap.size w w'
end
section
open Go.RowKit
attribute [local go_sem ↓] ldP_eq stP_eq ldFa_eq stFa_eq ldD_eq stD_eq
attribute [local go_sem] cells_PV PC_size cells_FaV FaC_size cells_RV RC_size zero_RC fold_RC
end
section
open Go.RowKit
theorem dsB_all (L:List K.En):L.filter (dsB ⟨#[]⟩ (-1))=L:=List.filter_eq_self.2 fun e _=>by unfold dsB;rfl
def HeardOf (f:Fc) (P:Pst):Prop:=InForm P/\∀ r,r < 16 -> ∀ n,mem (runsAt P r) n↔mem (dotsG (f.es.map dotOf) r) n∨mem (runsAt f.p.P r) n
theorem HeardOf.one {f:Fc} {P Q:Pst} (h:HeardOf f P) (k:HeardOf f Q):P=Q:=
 (canon_iff.2 h.1).unique (canon_iff.2 k.1) fun r hr n=>(h.2 r hr n).trans (k.2 r hr n).symm
def StOf (f s:Fc):Prop:=s.es=f.es/\HeardOf f s.p.P/\WtOf f.rs s.p.P s.rs
def EvS (f s:Fc) (er:Int):Prop:=(EvOf f er/\er≠0/\s=fz0)∨(EvOf f 0/\er=0/\StOf f s)
attribute [local go_sem ↓] ldP_eq stP_eq ldFa_eq stFa_eq ldSw_eq stSw_eq bldS_eq bsPs_eq
attribute [local go_sem] cells_PV PC_size cells_FaV FaC_size zero_FaZ run_bsPs run_bldS run_bldS0 zero_PC
theorem refHeard_any (f:Fc) (w:World) (hF:FcOk w f) (hFo:FormF f):Calls Tryz.prog 51 #[FaV (mkF f)] w fun e w'=>GivesP w w' e (HeardOf f):=by
 have HFo:=hide hFo;clear hFo;have b1:=below_new w (.cells (FaC (mkF f)) 29);have X1:=FaBox_new w (mkF f);obtain ⟨w1,hw1⟩:∃ w1,w.alloc (.cells (FaC (mkF f)) 29)=w1:=⟨_,rfl⟩
 have hs1:w1.heap.size=w.heap.size+1:=by rw [<- hw1];simp
 rw [hw1] at b1 X1;have x2:PBox (w1.alloc (.cells (PC pv0) 26)) w1.heap.size pv0:=pbox_new w1 pv0;have b2:=below_new w1 (.cells (PC pv0) 26);obtain ⟨w2,hw2⟩:∃ w2,w1.alloc (.cells (PC pv0) 26)=w2:=⟨_,rfl⟩;rw [hw2] at x2 b2;rw [hs1] at x2;obtain ⟨G,hG0⟩:∃ G,w.heap.size=G:=⟨_,rfl⟩;rw [hG0] at X1 x2 hs1;have HX:=hide (X1.below b2);have HZ:=hide x2;have HBK:=hide (b1.trans (b2.mono b1.size));have HF:=hide (hF.below HBK.out);have HGs:Hid (w.heap.size=G):=hG0;clear hF b1 b2 X1 x2;have HSt:Hid (∀ W,FaBox W G (mkF f) -> W.cell? ⟨G,0,none⟩=some (.slice f.ao f.an f.ac)/\(ldP (.pointer (some ⟨G,1,none⟩))).run Tryz.prog W = .ok (PV f.p) W):=fun W h=>⟨h.cs.1,run_ldP h.past⟩;go_enter Tryz.func51,Tryz.ntmps51;go_upto_region 1 with fail;clear hw1 hw2 hs1 hG0;refine wp_region_held_drew (S:=fun W=>W.cell? ⟨G,0,none⟩=some (.slice f.ao f.an f.ac)/\(ldP (.pointer (some ⟨G,1,none⟩))).run Tryz.prog W = .ok (PV f.p) W) (by kernel_rfl) (HSt.out _ (HX.out.below (below_drew1 w2))) (fun hHeld=>?_)
 refine wU 0 ?_;refine wU 1 ?_;refine wU 3 ?_;refine wU 4 ?_;refine wpAnyH_ready (rs:=[2]) (by kernel_rfl) (by simp) (.cons rfl (fun K hK=>?_) .nil);go_simp;go_wp2_with fail;refine (refDots8_any f.ao f.an f.ac f.es ⟨#[]⟩ (-1) _ (HF.out.es.below (below_drew1 w2))).mono ?_;rintro x w4 ⟨d,rfl,Sd,-,b4,Cd⟩;rw [dsB_all] at Cd;have HB4:=hide ((below_drew1 w2).trans (b4.mono (below_drew1 w2).size));have HD:=hide Sd;have HCd:=hide Cd;clear Sd Cd b4;refine hK.out _ _ (HSt.out _ (HX.out.below HB4.out)) (fun hHeld=>?_);clear hK K;refine wpAnyH_ready (rs:=[5]) (by kernel_rfl) (by simp) (.cons rfl (fun K hK=>?_) .nil);have hPR:=prow2 w4 d f.p HD.out (HF.out.p.below HB4.out);have b7:=below_new w4 (.cells #[.slice d.vo d.vn d.vc,.slice d.co d.cn d.cc,.slice f.p.vo f.p.vn f.p.vc,.slice f.p.co f.p.cn f.p.cc] 26);obtain ⟨w7,hw7⟩:∃ w7,w4.alloc (.cells #[.slice d.vo d.vn d.vc,.slice d.co d.cn d.cc,.slice f.p.vo f.p.vn f.p.vc,.slice f.p.co f.p.cn f.p.cc] 26)=w7:=⟨_,rfl⟩
 rw [hw7] at hPR b7;have HPR:=hide hPR;have HB7:=wTr HB4 b7;clear hPR b7;go_simp;refine hK.out _ _ (HSt.out _ (HX.out.below HB7.out)) (fun hHeld=>?_);clear hK K;clear hw7;refine wpAnyH_ready (rs:=[6]) (by kernel_rfl) (by simp) (.cons rfl (fun K hK=>?_) .nil);go_simp;go_wp2_with fail;refine (refJoin_any (some ⟨w4.heap.size,0,none⟩) 2 2 [d,f.p] _ HPR.out (bsP2_wt (canon_iff.1 HCd.out.canon) HFo.out.2.1) (by decide)).mono ?_;rintro x w8 ⟨q,rfl,S8,n8,b8,C8⟩;have HB8:=wTr HB7 b8
 have hz:G+1+1 <= w7.heap.size:=by have:=HZ.out.lt;have:=HB7.out.size;omega
 obtain ⟨s1,e1,e2,e3,e4⟩:=past_end (w:=w) (HZ.out.below HB8.out) S8 (n8.mono hz) (HBK.out.trans (HB8.out.mono HBK.out.size)) (by rw [HGs.out];omega);have HE1:=hide e1;have HXe:Hid (FaBox (w8.setRow (G+1) (PC q)) G (mkF f)):=(setRow_other _ _ _ _ (by omega)).trans (HX.out.below HB8.out)
 have HE:Hid (GivesP w (w8.setRow (G+1) (PC q)) (.returned (PV q)) (HeardOf f)):=⟨q,rfl,e2,e3,e4,canon_iff.1 C8.canon,fun r hr n=>by
  rw [canon_mem C8 r hr n]
  show mem (runsAt d.P r++(runsAt f.p.P r++[])) n↔_
  rw [List.append_nil,mem_append,canon_mem HCd.out r hr n]⟩
 clear S8 n8 b8 C8 e1 e2 e3 e4 hz;refine hK.out _ _ (HSt.out _ (HX.out.below HB8.out)) (fun hHeld=>?_);clear hK K;refine wpAnyH_ready (rs:=[7]) (by kernel_rfl) (by simp) (.cons rfl (fun K hK=>?_) .nil);go_simp;refine hK.out _ _ (HSt.out _ HXe.out) (fun hHeld=>?_);clear hK K;refine wpAnyH_done (by kernel_rfl) ?_ _;clear hHeld;go_wp2_with fail;refine bodyPost_ret (resP1 rfl rfl HE1.out) rfl ?_;exact HE.out
end
end Go.Proofs.YtjeilkenjdnafaaGreat
namespace Go.Proofs.YtjeilkenjdnafaaGreat.K
section
open Go.RowKit
attribute [local go_sem ↓] ld28_eq st28_eq ld26_eq
attribute [local go_sem] zero_EC cells_EV
end
section
open Go.RowKit
attribute [local go_sem ↓] ld28_eq st28_eq ld26_eq run_eqD
def DBox (w:World) (g:Nat) (y:En):Prop:=w.heap[g]? = some (.cells (DC y) 55 (0,0))
theorem DBox.lt {w:World} {g:Nat} {y:En} (h:DBox w g y):g < w.heap.size:=(Array.getElem?_eq_some_iff.1 h).1
theorem DBox.below {w w':World} {g:Nat} {y:En} (h:DBox w g y) (hb:Below w.heap.size w w'):DBox w' g y:=(hb.block g h.lt).trans h
def PlA (w w':World) (x:Ending) (B:List En) (y:En):Prop:=∃ z:Int,x = .returned (.int .i64 z)/\Below w.heap.size w w'/\((z = -1/\∀ e∈B,sameDot e y=false)∨∃ k:Nat,k < B.length/\z=(k:Int)/\sameDot (B.getD k en0) y=true)
end
section
open Go.RowKit
attribute [local go_sem ↓] ld28_eq st28_eq ld26_eq run_eq28
def CwB (B:List En) (x:En):Prop:=∃ y∈B,sameDot x y=true/\x≠y
def ClA (w w':World) (x:Ending) (A B:List En):Prop:=∃ b:Bool,x = .returned (.bool b)/\(b=true↔Clash (A++B))/\Below w.heap.size w w'
end
end Go.Proofs.YtjeilkenjdnafaaGreat.K
namespace Go.Proofs.YtjeilkenjdnafaaGreat
section
open Go.RowKit
attribute [local go_sem ↓] ldP_eq stP_eq ldRe_eq stRe_eq K.ld28_eq K.st28_eq
attribute [local go_sem] cells_PV PC_size cells_ReV ReC_size K.cells_EV K.EC_size K.zero_EC
variable {w w' w2 W W' : World} {g : Nat}
end
section
open Go.RowKit
attribute [local go_sem ↓] ldP_eq stP_eq K.ld28_eq K.st28_eq K.ld26_eq
attribute [local go_sem] cells_PV PC_size K.cells_EV K.EC_size
def stayB (B:List K.En) (P:Pst) (x:K.En):Bool:=B.any (fun y=>K.sameDot y x) || !inB P x
end
section
open Go.RowKit Go.Maps Go.Sort
theorem fold_PC2k (a b:Pv):Array.foldl (fun cs x=>cs.setIfInBounds (2+x.snd) x.fst) (Array.foldl (fun cs x=>cs.setIfInBounds x.snd x.fst) #[(PC pv0)[0]!,(PC pv0)[1]!,(PC pv0)[0]!,(PC pv0)[1]!] (PC a).zipIdx 0 2) (PC b).zipIdx 0 2=#[.slice a.vo a.vn a.vc,.slice a.co a.cn a.cc,.slice b.vo b.vn b.vc,.slice b.co b.cn b.cc]:=rfl
attribute [local go_sem ↓] ldP_eq stP_eq
attribute [local go_sem] cells_PV PC_size zero_PC fold_PC2k
def RmOf (L:List K.En) (P Q:Pst):Prop:=∃ D:Pst,CanonOf (dotsG (L.map dotOf)) D/\∃ C:Nat -> List Rn,(∀ r,r < 16 -> MinusOf (runsAt P r) (runsAt D r) (C r))/\CanonOf C Q
def KeptM (A B:List K.En) (P O:Pst) (x:K.En):Prop:=(x∈A/\stayB B O x=true)∨(x∈B/\stayB A P x=true)
def OkM (A B:List K.En) (P O:Pst):Prop:=K.chk A=0/\K.chk B=0/\InForm P/\InForm O
def MgD (A B:List K.En) (P O:Pst) (Z:List K.En) (er:Int):Prop:=(¬ OkM A B P O/\Z=[]/\er=1)∨(OkM A B P O/\K.Clash (A++B)/\Z=[]/\er=10)∨(OkM A B P O/\¬ K.Clash (A++B)/\er=0/\K.Asc Z/\∀ x,x∈Z↔KeptM A B P O x)
theorem clash_swap {A B:List K.En} (h:K.Clash (A++B)):K.Clash (B++A):=by
 obtain ⟨x,hx,y,hy,h1,h2⟩:=h;exact ⟨x,List.mem_append.2 (List.mem_append.1 hx).symm,y,List.mem_append.2 (List.mem_append.1 hy).symm,h1,h2⟩
def MgA (w w':World) (x:Ending) (A B:List K.En) (P O:Pst):Prop:=∃ a n c Z er,x = .returned (.tuple #[.slice a n c,.int .i64 er])/\K.ESrc w' a n c Z/\Below w.heap.size w w'/\MgD A B P O Z er
end
end Go.Proofs.YtjeilkenjdnafaaGreat
