import Derived.Test.YthlbpeoiocdjlaaGreatTk
import Derived.Test.YthlbpeoiocdjlaaGreatCb30
import Derived.Test.YthlbpeoiocdjlaaGreatCb00
import Derived.Test.YthlbpeoiocdjlaaGreatCb03
import Derived.Deep.RegionHeldLaw
import Derived.Test.YthlbpeoiocdjlaaGreatCb09
import Derived.Test.YthlbpeoiocdjlaaGreatCb24
import Derived.Test.YthlbpeoiocdjlaaGreatCb29
import Derived.Test.YthlbpeoiocdjlaaGreatCb23
import Derived.Test.YthlbpeoiocdjlaaGreatCb26
import Derived.Test.YthlbpeoiocdjlaaGreatCb06
import Derived.Test.YthlbpeoiocdjlaaGreatCb21
import Derived.Test.YthlbpeoiocdjlaaGreatCb19
import Derived.Shelf.SlIter.Nil
import Derived.Shelf.SortM.Plain
import Derived.Shelf.SortM.SortNone
import Derived.Shelf.SlGeneric
import Derived.Ground.GgzProg
import Derived.Ground.SlgmProg
import Derived.Test.YthlbpeoiocdjlaaGreatProg
import Derived.Test.YthlbpeoiocdjlaaGreatCb14
import Derived.Test.YthlbpeoiocdjlaaGreatCb05
set_option maxRecDepth 100000
set_option maxHeartbeats 6400000
namespace Go.Proofs.YthlbpeoiocdjlaaGreat
section
open Go.RowKit
attribute [local go_sem ↓] ldJ_eq stJ_eq
attribute [local go_sem] zeros_JA cells_JAv
def GivesSC (w w':World) (e:Ending) (k:Int) (N1 N2:Nat -> List Rn):Prop:=∃ (T:Nat -> Si) (N:Nat -> List Rn),e = .returned (JAv T)/\(∀ r,r < 16 -> V.Src w' (T r).ao (T r).n (T r).cap (tn (N r))/\(∀ ad,(T r).ao=some ad -> w.heap.size <= ad.block)/\CombOf k (N1 r) (N2 r) (N r))/\Below w.heap.size w w'
structure CbJ (w W:World) (k:Int) (T1 T2:Nat -> Si) (N1 N2:Nat -> List Rn) (T:Nat -> Si) (N:Nat -> List Rn) (j:Nat):Prop where
 a:ISets W w.heap.size 130 T1
 b:ISets W (w.heap.size+1) 130 T2
 z:ISets W (w.heap.size+1+1) 130 (fun _=>si0)
 s:ISets W (w.heap.size+1+1+1) 130 T
 bl:Below w.heap.size w W
 t:∀ r,r < j -> V.Src W (T r).ao (T r).n (T r).cap (tn (N r))/\(∀ ad,(T r).ao=some ad -> w.heap.size+1+1+1 < ad.block)/\CombOf k (N1 r) (N2 r) (N r)
theorem CbJ.start (w:World) (k:Int) (T1 T2:Nat -> Si) (N1 N2:Nat -> List Rn):CbJ w ((((w.alloc (.cells (JA T1) 130)).alloc (.cells (JA T2) 130)).alloc (.cells (JA fun _=>si0) 130)).alloc (.cells (JA fun _=>si0) 130)) k T1 T2 N1 N2 (fun _=>si0) (fun _=>[]) 0:=by
 have b1:=below_new w (.cells (JA T1) 130);have b2:=below_new (w.alloc (.cells (JA T1) 130)) (.cells (JA T2) 130);have b3:=below_new ((w.alloc (.cells (JA T1) 130)).alloc (.cells (JA T2) 130)) (.cells (JA fun _=>si0) 130);have b4:=below_new (((w.alloc (.cells (JA T1) 130)).alloc (.cells (JA T2) 130)).alloc (.cells (JA fun _=>si0) 130)) (.cells (JA fun _=>si0) 130);have i1:=isets_new w 130 T1;have i2:=isets_new (w.alloc (.cells (JA T1) 130)) 130 T2;have i3:=isets_new ((w.alloc (.cells (JA T1) 130)).alloc (.cells (JA T2) 130)) 130 (fun _=>si0);have i4:=isets_new (((w.alloc (.cells (JA T1) 130)).alloc (.cells (JA T2) 130)).alloc (.cells (JA fun _=>si0) 130)) 130 (fun _=>si0);have j1:=((i1.below b2).below b3).below b4;have j2:=(i2.below b3).below b4;have j3:=i3.below b4;simp only [World.size_alloc] at j1 j2 j3 i4;exact ⟨j1,j2,j3,i4,b1.trans ((b2.mono b1.size).trans ((b3.mono (b1.trans (b2.mono b1.size)).size).trans (b4.mono (b1.trans ((b2.mono b1.size).trans (b3.mono (b1.trans (b2.mono b1.size)).size))).size))),fun r h=>absurd h (by omega)⟩
theorem CbJ.on {w W W':World} {k:Int} {T1 T2:Nat -> Si} {N1 N2:Nat -> List Rn} {T:Nat -> Si} {N:Nat -> List Rn} {j:Nat} (I:CbJ w W k T1 T2 N1 N2 T N j) (hb:Below W.heap.size W W'):CbJ w W' k T1 T2 N1 N2 T N j:=
 ⟨I.a.below hb,I.b.below hb,I.z.below hb,I.s.below hb,I.bl.trans (hb.mono I.bl.size),fun r hr=>⟨(I.t r hr).1.below hb,(I.t r hr).2⟩⟩
theorem CbJ.push {w W W':World} {k:Int} {T1 T2:Nat -> Si} {N1 N2:Nat -> List Rn} {T:Nat -> Si} {N:Nat -> List Rn} {j:Nat} (I:CbJ w W k T1 T2 N1 N2 T N j) (hb:Below W.heap.size W W') {ao:Option Addr} {n c:Nat} {X:List Rn} (S:V.Src W' ao n c (tn X)) (hf:∀ ad,ao=some ad -> W.heap.size <= ad.block) (hN:CombOf k (N1 j) (N2 j) X) :
  CbJ w (W'.setCell ⟨w.heap.size+1+1+1,j,none⟩ (.slice ao n c)) k T1 T2 N1 N2 (Jset T j ⟨ao,n,c,[]⟩) (fun r=>if r=j then X else N r) (j+1):=by
 have hl:=I.s.lt;have J:=I.on hb;have hs:∀ {q:Nat},q≠w.heap.size+1+1+1 -> (W'.setCell ⟨w.heap.size+1+1+1,j,none⟩ (.slice ao n c)).heap[q]? = W'.heap[q]?:=fun h=>setCell_other h;refine ⟨(hs (by omega)).trans J.a,(hs (by omega)).trans J.b,(hs (by omega)).trans J.z,(I.s.below hb).set j ⟨ao,n,c,[]⟩ _ rfl,V.below_setCell J.bl (by simp;omega),fun r hr=>?_⟩;by_cases h:r=j
 ·subst h;rw [Jset_same,if_pos rfl];exact ⟨src_off S (fun ad h=>hs (by have:=hf ad h;omega)),fun ad h=>by have:=hf ad h;omega,hN⟩
 ·rw [Jset_other _ _ _ _ h,if_neg h];obtain ⟨h1,h2,h3⟩:=I.t r (by omega);exact ⟨src_off (h1.below hb) (fun ad h=>hs (by have:=h2 ad h;omega)),h2,h3⟩
theorem combined_any (T1 T2:Nat -> Si) (N1 N2:Nat -> List Rn) (k:Int) (w:World) (hS1:∀ r,r < 16 -> V.Src w (T1 r).ao (T1 r).n (T1 r).cap (tn (N1 r))/\form 1 (N1 r)) (hS2:∀ r,r < 16 -> V.Src w (T2 r).ao (T2 r).n (T2 r).cap (tn (N2 r))/\form 1 (N2 r)) (hk:k=1∨k=2) :
  Calls Tryz.prog 110 #[JAv T1,JAv T2,.int .i64 k] w fun e w'=>GivesSC w w' e k N1 N2:=by
 have HS1:=hide hS1;have HS2:=hide hS2;have HK:=hide hk;clear hS1 hS2 hk;have HJ0:=hide (CbJ.start w k T1 T2 N1 N2);go_enter Tryz.func110,Tryz.ntmps110;go_wp2_with fail;go_loopw [8] (fun i wr=>∃ (j:Nat) (T:Nat -> Si) (N:Nat -> List Rn),j <= 16/\i = .int .i64 j/\Hid (CbJ w wr k T1 T2 N1 N2 T N j)) (fun i _=>16 - (intOf i).toNat)
 case atStart=>exact ⟨0,_,_,Nat.zero_le _,rfl,HJ0⟩
 case round =>
  obtain ⟨y,T,N,hy16,rfl,HJ⟩:=hrel
  rename World=>w6
  clear HJ0;by_cases hy:y < 16
  ·have HGL:=hide HJ.out.s.lt;have sA:=(HS1.out y hy).1.below HJ.out.bl;have sB:=(HS2.out y hy).1.below HJ.out.bl;have HFA:=hide (HS1.out y hy).2;have HFB:=hide (HS2.out y hy).2;have c1:=HJ.out.a.cell y hy;have c2:=HJ.out.b.cell y hy;obtain ⟨sa,n,ca,sb,m,cb,hf⟩:∃ sa n ca sb m cb,(T1 y).ao=sa/\(T1 y).n=n/\(T1 y).cap=ca/\(T2 y).ao=sb/\(T2 y).n=m/\(T2 y).cap=cb:=⟨_,_,_,_,_,_,rfl,rfl,rfl,rfl,rfl,rfl⟩;rw [hf.1,hf.2.1,hf.2.2.1] at sA c1;rw [hf.2.2.2.1,hf.2.2.2.2.1,hf.2.2.2.2.2] at sB c2;have HSA:=hide (sA.below (below_drew1 w6));have HSB:=hide (sB.below (below_drew1 w6));have HSW:Hid (∀ W':World,(∀ q,q < w.heap.size+1+1+1 -> W'.heap[q]? = w6.heap[q]?) -> W'.cell? ⟨w.heap.size,y,none⟩=some (.slice sa n ca)/\W'.cell? ⟨w.heap.size+1,y,none⟩=some (.slice sb m cb)):=fun W' h=>⟨(World.cell?_of_block (h _ (by show w.heap.size < _;omega))).trans c1,(World.cell?_of_block (h _ (by show w.heap.size+1 < _;omega))).trans c2⟩
   clear sA sB hf
   have y0:(0:Int) <= (y:Int):=by omega
   have y1:(y:Int) < 16:=by omega
   go_wp2_with fail;refine wp_region_held_drew (S:=fun W=>W.cell? ⟨w.heap.size,y,none⟩=some (.slice sa n ca)/\W.cell? ⟨w.heap.size+1,y,none⟩=some (.slice sb m cb)) (by kernel_rfl) (HSW.out _ (fun q _=>rfl)) (fun hHeld=>?_);refine wU 0 ?_;refine wU 1 ?_;refine wU 2 ?_;refine wU 3 ?_;refine wU 4 ?_;refine wU 5 ?_;refine wU 6 ?_;refine wU 7 ?_;refine wU 8 ?_;refine wU 9 ?_;refine wU 11 ?_;refine wpAnyH_ready (rs:=[10]) (by kernel_rfl) (by simp) (.cons rfl (fun K hK=>?_) .nil);go_simp;go_wp2_with fail;have HJD:=hide (HJ.out.on (below_drew1 w6));refine (combine_any _ _ _ _ _ _ _ _ _ _ HSA.out HSB.out HFA.out HFB.out HK.out).mono ?_;rintro e w8 ⟨t9,tt,tc,TX,rfl,S8,f8,b8,N8⟩;have HP:=hide (HJD.out.push b8 S8 f8 N8);have HKA:Hid (∀ q,q < w6.heap.size -> w8.heap[q]? = w6.heap[q]?):=fun q hq=>b8.block q hq;have HS8:=(HJD.out.s.below b8)
   have e2:=HS8.frozen y;have e1:=HS8.cell y hy;have HKB:Hid (∀ q,q < w.heap.size+1+1+1 -> (w8.setCell ⟨w.heap.size+1+1+1,y,none⟩ (.slice t9 tt tc)).heap[q]? = w6.heap[q]?):=fun q hq=>(setCell_other (by omega)).trans (HKA.out q (by have:=HGL.out;omega));refine hK.out _ _ (HSW.out _ (fun q hq=>HKA.out q (by have:=HGL.out;omega))) (fun hHeld=>?_);clear hK K;refine wU 12 ?_;refine wpAnyH_ready (rs:=[13]) (by kernel_rfl) (by simp) (.cons rfl (fun K hK=>?_) .nil);go_simp;refine hK.out _ _ (HSW.out _ HKB.out) (fun hHeld=>?_);clear hK K;refine wpAnyH_done (by kernel_rfl) ?_ _;clear hHeld S8 f8 b8 N8 HKA HKB HS8 e1 e2;go_wp2_with fail;go_roundw
   case rel=>exact ⟨y+1,_,_,by omega,by go_num,HP⟩
   case measure=>simp [intOf];omega
  ·obtain rfl:y=16:=by omega
   have hld:=run_ldJ HJ.out.s;have hst:=run_stJ (F':=T) HJ.out.z;have HRes:=hide (ISets.setRow (F':=T) HJ.out.z)
   have HFin:Hid (GivesSC w (w6.setRow (w.heap.size+1+1) (JA T)) (.returned (JAv T)) k N1 N2):=by
    refine ⟨T,N,rfl,fun r hr=>?_,below_setRow HJ.out.bl (by omega)⟩;obtain ⟨h1,h2,h3⟩:=HJ.out.t r hr;exact ⟨src_off h1 (fun ad h=>setRow_other _ _ _ _ (fun e=>by have:=h2 ad h;omega)),fun ad h=>by have:=h2 ad h;omega,h3⟩
   clear HJ;go_wp2_with fail;exact bodyPost_ret (v:=JAv T) (resJ Tryz.results110 rfl HRes.out) rfl HFin.out
end
section
open Go.RowKit
attribute [local go_sem ↓] ldP_eq stP_eq ldJ_eq stJ_eq
attribute [local go_sem] zeros_JA cells_JAv zero_PC cells_PV fold_PC PC_size fold_PC1
theorem comb_minus {A B a b c:List Rn} (ha:NormOf A a) (hb:NormOf B b) (h:CombOf 2 a b c):MinusOf A B c:=⟨h.1,fun n=>by rw [h.2 n,ha.2 n,hb.2 n];simp⟩
theorem refMinus_any (a b:Pv) (w:World) (hA:PSrc w a) (hB:PSrc w b) :
  Calls Tryz.prog 71 #[PV a,PV b] w fun e w'=>GivesP w w' e (fun P=>∃ C:Nat -> List Rn,(∀ r,r < 16 -> MinusOf (runsAt a.P r) (runsAt b.P r) (C r))/\CanonOf C P):=by
 have b1:=below_new w (.cells (PC a) 26);have b2:=below_new (w.alloc (.cells (PC a) 26)) (.cells (PC b) 26);have b3:=below_new ((w.alloc (.cells (PC a) 26)).alloc (.cells (PC b) 26)) (.cells (PC pv0) 26);have p2:=pbox_new (w.alloc (.cells (PC a) 26)) b;have p3:=pbox_new ((w.alloc (.cells (PC a) 26)).alloc (.cells (PC b) 26)) pv0;simp only [World.size_alloc] at p2 p3;have HX1:=hide (((pbox_new w a).below b2).below b3);have HX2:=hide (p2.below b3);have HX3:=hide p3;have HBK:=hide (b1.trans ((b2.trans (b3.mono b2.size)).mono b1.size));have HAS:=hide (hA.below HBK.out);have HBS:=hide (hB.below HBK.out);clear hA hB b1 b2 b3 p2 p3;obtain ⟨wk,hwk⟩:∃ wk,((w.alloc (.cells (PC a) 26)).alloc (.cells (PC b) 26)).alloc (.cells (PC pv0) 26)=wk:=⟨_,rfl⟩
 have HWZ:Hid (wk.heap.size=w.heap.size+1+1+1):=by show _=_;rw [<- hwk];simp
 rw [hwk] at HX1 HX2 HX3 HBK HAS HBS;have HCK:Hid (Below wk.heap.size wk wk):=Below.refl _ _;have HSW:Hid (∀ W':World,Below wk.heap.size wk W' -> (ldP (.pointer (some ⟨w.heap.size,0,none⟩))).run Tryz.prog W' = .ok (PV a) W'/\(ldP (.pointer (some ⟨w.heap.size+1,0,none⟩))).run Tryz.prog W' = .ok (PV b) W'):=fun W' h=>⟨run_ldP (HX1.out.below h).at,run_ldP (HX2.out.below h).at⟩;have HSR:Hid (∀ (W':World) (p:Pv),Below wk.heap.size wk W' -> (ldP (.pointer (some ⟨w.heap.size,0,none⟩))).run Tryz.prog (W'.setRow (w.heap.size+1+1) (PC p)) = .ok (PV a) (W'.setRow (w.heap.size+1+1) (PC p))/\(ldP (.pointer (some ⟨w.heap.size+1,0,none⟩))).run Tryz.prog (W'.setRow (w.heap.size+1+1) (PC p)) = .ok (PV b) (W'.setRow (w.heap.size+1+1) (PC p))):=fun W' p h=>⟨run_ldP (show PBox _ _ _ from (setRow_other _ _ _ _ (by omega)).trans (HX1.out.below h)).at,run_ldP (show PBox _ _ _ from (setRow_other _ _ _ _ (by omega)).trans (HX2.out.below h)).at⟩
 go_enter Tryz.func71,Tryz.ntmps71;go_wp2_with fail;clear hwk;refine wp_region_held_drew (S:=fun W=>(ldP (.pointer (some ⟨w.heap.size,0,none⟩))).run Tryz.prog W = .ok (PV a) W/\(ldP (.pointer (some ⟨w.heap.size+1,0,none⟩))).run Tryz.prog W = .ok (PV b) W) (by kernel_rfl) (HSW.out _ (below_drew1 _)) (fun hHeld=>?_);refine wU 0 ?_;refine wU 2 ?_;refine wpAnyH_ready (rs:=[1]) (by kernel_rfl) (by simp) (.cons rfl (fun K hK=>?_) .nil);go_simp;go_wp2_with fail;refine (one_any a _ (by exact HAS.out.below (HCK.out.trans ((below_drew1 wk).mono HCK.out.size)))).mono ?_;rintro e w2 ⟨Ta,Na,rfl,hT,hb⟩;have HBw2:=hide ((below_drew1 wk).trans (hb.mono (below_drew1 wk).size));have HCw2:=wTr HCK HBw2.out;have HTa:=hide hT;clear hT hb;refine hK.out _ _ (HSW.out _ HCw2.out) (fun hHeld=>?_);clear hK K;refine wpAnyH_ready (rs:=[3]) (by kernel_rfl) (by simp) (.cons rfl (fun K hK=>?_) .nil)
 go_simp;go_wp2_with fail;refine (one_any b _ (by exact HBS.out.below HCw2.out)).mono ?_;rintro e w3 ⟨Tb,Nb,rfl,hT,hb⟩;have HBw3:=hide hb;have HCw3:=wTr HCw2 HBw3.out;have HTb:=hide hT;clear hT hb;refine hK.out _ _ (HSW.out _ HCw3.out) (fun hHeld=>?_);clear hK K;have HFa:Hid (∀ r,r < 16 -> V.Src w3 (Ta r).ao (Ta r).n (Ta r).cap (tn (Na r))/\NormOf (runsAt a.P r) (Na r)):=fun r hr=>⟨(HTa.out r hr).1.below HBw3.out,(HTa.out r hr).2.2⟩;have HFb:Hid (∀ r,r < 16 -> V.Src w3 (Tb r).ao (Tb r).n (Tb r).cap (tn (Nb r))/\NormOf (runsAt b.P r) (Nb r)):=fun r hr=>⟨(HTb.out r hr).1,(HTb.out r hr).2.2⟩;refine wpAnyH_ready (rs:=[4]) (by kernel_rfl) (by simp) (.cons rfl (fun K hK=>?_) .nil);go_simp;go_wp2_with fail;refine (combined_any Ta Tb Na Nb 2 _ (fun r hr=>⟨(HFa.out r hr).1,(HFa.out r hr).2.1⟩) (fun r hr=>⟨(HFb.out r hr).1,(HFb.out r hr).2.1⟩) (Or.inr rfl)).mono ?_
 rintro e w5 ⟨T,N,rfl,hT,hb⟩;have HBw5:=hide hb;have HCw5:=wTr HCw3 HBw5.out;have HT:=hide hT;clear hT hb;refine hK.out _ _ (HSW.out _ HCw5.out) (fun hHeld=>?_);clear hK K;refine wpAnyH_ready (rs:=[5]) (by kernel_rfl) (by simp) (.cons rfl (fun K hK=>?_) .nil);go_simp;go_wp2_with fail;refine (refForm_any T N _ (fun r hr=>⟨(HT.out r hr).1,(HT.out r hr).2.2.1⟩)).mono ?_;rintro e w6 ⟨p,rfl,S6,n6,b6,c6⟩;have HBw6:=hide b6;have HCw6:=wTr HCw5 HBw6.out;have hsz:=HCw5.out.size;have hwz:=HWZ.out;obtain ⟨e1,e2,e3,e4,e5⟩:=past_end (w:=w) (HX3.out.below HCw6.out) S6 (n6.mono (by show _ <= w5.heap.size;omega)) (HBK.out.trans (HCw6.out.mono HBK.out.size)) (by omega);have HRes:=hide e2;have HFin:Hid (GivesP w _ (.returned (PV p)) (fun P=>∃ C:Nat -> List Rn,(∀ r,r < 16 -> MinusOf (runsAt a.P r) (runsAt b.P r) (C r))/\CanonOf C P)):=⟨p,rfl,e3,e4,e5,N,fun r hr=>comb_minus (HFa.out r hr).2 (HFb.out r hr).2 (HT.out r hr).2.2,N,fun r hr=>⟨(HT.out r hr).2.2.1,fun _=>Iff.rfl⟩,c6⟩
 have HSL:=hide (HSW.out _ HCw6.out);clear S6 n6 b6 c6 e2 e3 e4 e5;refine hK.out _ _ HSL.out (fun hHeld=>?_);clear hK K;refine wpAnyH_ready (rs:=[6]) (by kernel_rfl) (by simp) (.cons rfl (fun K hK=>?_) .nil);go_simp;refine hK.out _ _ (HSR.out _ _ HCw6.out) (fun hHeld=>?_);clear hK K;refine wpAnyH_done (by kernel_rfl) ?_ _;clear hHeld hsz hwz;go_wp2_with fail;exact bodyPost_ret (v:=PV p) (resP Tryz.results71 rfl HRes.out) rfl HFin.out
end
section
open Go.RowKit
attribute [local go_sem ↓] ldP_eq stP_eq ldJ_eq stJ_eq
attribute [local go_sem] zeros_JA cells_JAv zero_PC cells_PV fold_PC PC_size fold_PC1
theorem refWithin_any (a b:Pv) (w:World) (hA:PSrc w a) (hB:PSrc w b):Calls Tryz.prog 37 #[PV a,PV b] w fun e w'=>∃ x,e = .returned (.bool x)/\(x=true↔∀ r,r < 16 -> ∀ n,mem (runsAt a.P r) n -> mem (runsAt b.P r) n)/\Below w.heap.size w w':=by
 have b1:=below_new w (.cells (PC a) 26);have b2:=below_new (w.alloc (.cells (PC a) 26)) (.cells (PC b) 26);have p2:=pbox_new (w.alloc (.cells (PC a) 26)) b;simp only [World.size_alloc] at p2
 have l1:=run_ldP ((pbox_new w a).below b2).at
 have l2:=run_ldP p2.at
 have HBK:=hide (b1.trans (b2.mono b1.size));have HA:=hide (hA.below HBK.out);have HB:=hide (hB.below HBK.out);clear hA hB b1 b2 p2;go_enter Tryz.func37,Tryz.ntmps37;go_wp2_with fail;refine (refMinus_any a b _ HA.out HB.out).mono ?_;rintro e w3 ⟨p,rfl,S3,n3,b3,C,hC,c3⟩;have HS3:=hide S3;have HB3:=wTr HBK b3;have HC:=hide (And.intro hC c3);clear S3 n3 b3 hC c3 l1 l2;go_wp2_with fail;refine (refEmpty_any p _ HS3.out).mono ?_;rintro e w4 ⟨x,rfl,hx,b4⟩
 have HFin:Hid (∃ y,(Ending.returned (.bool x):Ending) = .returned (.bool y)/\(y=true↔∀ r,r < 16 -> ∀ n,mem (runsAt a.P r) n -> mem (runsAt b.P r) n)/\Below w.heap.size w w4):=by
  refine ⟨x,rfl,?_,HB3.out.trans (b4.mono HB3.out.size)⟩;rw [hx];have key:∀ r,r < 16 -> ∀ n,(mem (runsAt p.P r) n↔mem (runsAt a.P r) n/\¬ mem (runsAt b.P r) n):=fun r hr n=>(canon_mem HC.out.2 r hr n).trans ((HC.out.1 r hr).2 n);constructor
  ·intro h r hr n hm;by_cases hb:mem (runsAt b.P r) n
   ·exact hb
   ·exact absurd ((key r hr n).2 ⟨hm,hb⟩) (h r hr n)
  ·intro h r hr n hm;obtain ⟨h1,h2⟩:=(key r hr n).1 hm;exact h2 (h r hr n h1)
 clear hx b4;go_wp2_with fail;go_ret;exact HFin.out
end
section
open Go.RowKit Go.Maps
open Classical in
noncomputable def waitB (P:Pst) (y:Rp):Bool:=decide (¬ wiP y.2 P)
def WtOf (L:List Rc) (P:Pst) (F:List Rc):Prop:=(∀ r∈F,RecOk r)/\plR F=(plR L).filter (waitB P)
theorem waitB_no {P:Pst} {y:Rp} (h:wiP y.2 P):waitB P y=false:=by unfold waitB;simp [h]
theorem waitB_yes {P:Pst} {y:Rp} (h:¬ wiP y.2 P):waitB P y=true:=by unfold waitB;simp [h]
structure WtI (L:List Rc) (P:Pst) (k:Nat) (D:List Rc):Prop where
 ok:∀ r∈D,RecOk r
 eq:plR D=(plR (L.take k)).filter (waitB P)
theorem WtI.start (L:List Rc) (P:Pst):WtI L P 0 []:=⟨fun r h=>(by cases h),rfl⟩
theorem WtI.skip {L:List Rc} {P:Pst} {k:Nat} {D:List Rc} {r:Rc} (h:WtI L P k D) (hk:k < L.length) (hr:L.getD k rc0=r) (hw:wiP r.p.P P):WtI L P (k+1) D:=by
 refine ⟨h.ok,?_⟩;rw [plR_take L k hk,hr,List.filter_append,<- h.eq,List.filter_cons_of_neg (by rw [waitB_no (show wiP (r.s,r.p.P).2 P from hw)];decide),List.filter_nil,List.append_nil]
theorem WtI.add {L:List Rc} {P:Pst} {k:Nat} {D:List Rc} {r c:Rc} (h:WtI L P k D) (hk:k < L.length) (hr:L.getD k rc0=r) (hw:¬ wiP r.p.P P) (hc:RecOk c) (e:rck c=rck r):WtI L P (k+1) (D++[c]):=by
 refine ⟨mem_snoc h.ok hc,?_⟩;rw [plR_take L k hk,hr,List.filter_append,<- h.eq,List.filter_cons_of_pos (waitB_yes (show ¬ wiP (r.s,r.p.P).2 P from hw)),List.filter_nil,plR_sn,e];rfl
theorem WtI.done {L:List Rc} {P:Pst} {D:List Rc} (h:WtI L P L.length D):WtOf L P D:=⟨h.ok,by rw [h.eq,List.take_length]⟩
def WtA (w w':World) (x:Ending) (L:List Rc) (n:Nat) (P:Pst):Prop:=(OkR L n/\InForm P/\∃ (h:Hs) (F:List Rc),x = .returned (.tuple #[HsV h,.int .i64 0])/\GvR w w' h F/\h.n <= n/\WtOf L P F)∨(¬ (OkR L n/\InForm P)/\x = .returned (.tuple #[.slice none 0 0,.int .i64 1])/\Below w.heap.size w w')
attribute [local go_sem ↓] ldP_eq stP_eq ldRe_eq stRe_eq
attribute [local go_sem] cells_PV PC_size cells_ReV ReC_size zero_ReC
theorem keepWaits_any (ao:Option Addr) (n ca:Nat) (L:List Rc) (p:Pv) (w:World) (hS:RcT w ao n ca L) (hP:PSrc w p) (hn:n <= 2199023255551) :
  Calls Tryz.prog 21 #[.slice ao n ca,PV p] w fun x w'=>WtA w w' x L n p.P:=by
 have b1:=below_new w (.cells (PC p) 26);have x1:=pbox_new w p;obtain ⟨wk,hwk⟩:∃ w1,w.alloc (.cells (PC p) 26)=w1:=⟨_,rfl⟩;obtain ⟨G,hG⟩:∃ g1,w.heap.size=g1:=⟨_,rfl⟩;rw [hwk] at b1 x1;rw [hG] at x1;have HBK:=hide b1;have HX:=hide x1;have HS:=hide (hS.below b1);have HP:=hide (hP.below b1);have HLn:Hid (L.length=n):=hS.src.len;have HN:=hide hn;clear b1 x1 hS hP;go_enter Tryz.func21,Tryz.ntmps21;go_wp2_with fail;clear hwk hG;refine (keepCheck_any ao n ca L _ HS.out.src).mono ?_;rintro x w1 ⟨z,rfl,hz,b1⟩;have HB1:=hide b1
 have lp:=run_ldP (HX.out.below b1).at
 clear b1;rcases hz with ⟨rfl,hO⟩ | ⟨rfl,hO⟩;rotate_left
 ·have HE:Hid (WtA w w1 (.returned (.tuple #[.slice none 0 0,.int .i64 1])) L n p.P):=.inr ⟨fun h=>hO h.1,rfl,HBK.out.trans (HB1.out.mono HBK.out.size)⟩;clear hO lp;go_wp2_with fail;go_ret2;exact HE.out
 have HO:=hide hO;clear hO;go_wp2_with fail;clear lp;refine (isNormP_any p _ (HP.out.below HB1.out)).mono ?_;rintro x w0 ⟨b,rfl,hb,b2⟩;have HB0:=wTr HB1 b2;clear b2
 cases b with
 | false =>
  have HE:Hid (WtA w w0 (.returned (.tuple #[.slice none 0 0,.int .i64 1])) L n p.P):=.inr ⟨fun h=>(by have:=hb.2 h.2;cases this),rfl,HBK.out.trans (HB0.out.mono HBK.out.size)⟩;clear hb;go_wp2_with fail;go_ret2;exact HE.out
 | true =>
  have HF:=hide (hb.1 rfl);have HOL:=hide (okR_iff.1 (by rw [HLn.out];exact HO.out):(∀ r∈L,RecOk r)/\Srt ck (plR L));clear hb;go_wp2_with fail;go_loopw [6,8,19] (fun v _ i wr=>∃ (k:Nat) (h:Hs) (D:List Rc),k <= n/\v = .slice h.o h.n h.c/\i = .int .i64 (k:Int)/\Hid (OwnRc w0.heap.size w0 wr h D/\WtI L p.P k D/\(∀ r∈D,PNew w0.heap.size r.p)/\h.n <= k)) (fun _ _ i _=>n - (intOf i).toNat)
  case atStart=>exact ⟨0,hs0,[],Nat.zero_le _,rfl,rfl,OwnRc.nil w0,WtI.start L _,fun r hr=>(by cases hr),Nat.le_refl _⟩
  case round =>
   obtain ⟨k,h,D,hk,rfl,rfl,HI⟩:=hrel
   rename World=>wr
   have HBr:Hid (Below wk.heap.size wk wr):=HB0.out.trans (HI.out.1.below.mono HB0.out.size);have hnb:=HN.out;by_cases hlt:k < n
   ·have hlti:(k:Int) < (n:Int):=by omega
    obtain ⟨ad,hao,A0⟩:=(HS.out.below HBr.out).src.at k hlt;have hOk:=(HS.out.below HBr.out).src.okAt k hlt;obtain ⟨r,Hr⟩:∃ r,Hid (L.getD k rc0=r):=⟨_,rfl⟩;rw [Hr.out] at A0 hOk
    have HRo:Hid (RecOk r):=by
     have h:=HOL.out.1 _ (rcD_mem (L:=L) (j:=k) (by rw [HLn.out];exact hlt));rw [Hr.out] at h;exact h
    subst hao;have hld:=run_laRe A0;obtain ⟨g7,hg7⟩:∃ g7,wr.heap.size=g7:=⟨_,rfl⟩;obtain ⟨w7,hst,X7,B7,S7⟩:=madeRe wr (mkR r) g7 hg7;have HO7:=hide (HI.out.1.later B7);have HB7:=wTr HBr B7;have HX7:=hide X7;have HQ7:=hide (hOk.below B7);have lr:=run_ldP X7.past
    have lp:=run_ldP (HX.out.below HB7.out).at
    have Hlt:=hide hlt;clear A0 X7 B7 S7 hOk hlt hk;go_wp2_with fail;clear hst hld hg7 lr lp;refine (within7_any r.p p _ HQ7.out.1 (HP.out.below HB7.out) HRo.out.2.1 HF.out).mono ?_;rintro e w8 ⟨b,rfl,hb,b8⟩;have HO8:=hide (HO7.out.later b8);have Hb:=hide hb;have HQ8:=hide (HQ7.out.below b8);have l7:=run_ldRe (HX7.out.below b8);clear hb b8
    cases b with
    | true =>
     have HN2:Hid (OwnRc w0.heap.size w0 w8 h D/\WtI L p.P (k+1) D/\(∀ r∈D,PNew w0.heap.size r.p)/\h.n <= k+1):=⟨HO8.out,HI.out.2.1.skip (by rw [HLn.out];exact Hlt.out) Hr.out (Hb.out.1 rfl),HI.out.2.2.1,by have:=HI.out.2.2.2;omega⟩;go_wp2_with fail;clear l7;go_roundw
     case rel=>exact ⟨k+1,h,D,Hlt.out,rfl,by simp,HN2.out⟩
     case measure=>simp [intOf];have:=Hlt.out;omega
    | false =>
     have Hno:Hid (¬ wiP r.p.P p.P):=fun h=>by have:=Hb.out.2 h;cases this
     go_wp2_with fail;clear l7;refine (copied_any r _ HQ8.out).mono ?_;rintro e wa ⟨c,rfl,hcs,Rc1,Nc,ba,Cc⟩;have Oa:=HO8.out.later ba;have hfar:FarH h c.p:=fun j hj=>PFar.new Nc (HO8.out.own.lt j hj).2;obtain ⟨gb,cb2,wb,hab,Ob,hkb,hgb,hsb⟩:=Oa.appAt c Rc1 hfar (by have:=HI.out.2.2.2;have:=HN.out;have:=Hlt.out;omega);have HAb:Hid ((Builtin.append_ #[27,27] 27 #[.slice h.o h.n h.c,.slice (some ⟨wa.heap.size,0,none⟩) 1 1]).run Tryz.prog (wa.alloc (.cells #[.string c.s,.slice c.p.vo c.p.vn c.p.vc,.slice c.p.co c.p.cn c.p.cc] 59)) = .ok (.slice (some ⟨gb,0,none⟩) (h.n+1) cb2) wb):=hab;have e:=copy_rck HRo.out hcs Cc;have HN2:Hid (OwnRc w0.heap.size w0 wb ⟨some ⟨gb,0,none⟩,h.n+1,cb2⟩ (D++[c])/\WtI L p.P (k+1) (D++[c])/\(∀ r∈D++[c],PNew w0.heap.size r.p)/\h.n+1 <= k+1):=⟨Ob,HI.out.2.1.add (by rw [HLn.out];exact Hlt.out) Hr.out Hno.out (recOk_rck HRo.out e) e,mem_snoc HI.out.2.2.1 (Nc.mono HO8.out.below.size),by have:=HI.out.2.2.2;omega⟩
     clear hab Ob Oa hfar hcs Rc1 Nc ba Cc hkb hgb hsb e;go_wp2_with (at_builtin;refine seq_appM rfl (.tmp 28) (.tmp 31) rfl rfl rfl HAb.out ?_);go_roundw
     case rel=>exact ⟨k+1,⟨some ⟨gb,0,none⟩,h.n+1,cb2⟩,D++[c],Hlt.out,rfl,by simp,HN2.out⟩
     case measure=>simp [intOf];have:=Hlt.out;omega
   ·have hlti:¬ (k:Int) < (n:Int):=by omega
    have HE:Hid (WtA w wr (.returned (.tuple #[.slice h.o h.n h.c,.int .i64 0])) L n p.P):=by
     obtain ⟨q1,q2,q3,q4⟩:=HI.out;rw [show k=L.length by rw [HLn.out];omega] at q2;exact .inl ⟨HO.out,HF.out,h,D,rfl,q1.give (HBK.out.trans (HB0.out.mono HBK.out.size)) q3 (by omega),by omega,q2.done⟩
    clear HI;go_wp2_with fail;go_ret2;exact HE.out
def WrA (w w':World) (x:Ending) (L:List Rc) (n:Nat) (P:Pst):Prop:=(OkR L n/\InForm P/\∃ (h:Hs) (F:List Rc),x = .returned (.tuple #[HsV h,.int .i64 0])/\RcT w' h.o h.n h.c F/\(∀ ad,h.o=some ad -> w.heap.size <= ad.block)/\h.n <= n/\Below w.heap.size w w'/\WtOf L P F)∨(¬ (OkR L n/\InForm P)/\x = .returned (.tuple #[.slice none 0 0,.int .i64 1])/\Below w.heap.size w w')
end
section
open Go.RowKit
theorem countP_more {D:List Rn} {p q:Rn -> Bool} {a:Rn} (ha:a∈D) (hp:p a=true) (hq:q a=false) (hqp:∀ x,q x=true -> p x=true):D.countP q+1 <= D.countP p:=by
 induction D with
 | nil=>cases ha
 | cons x D ih =>
  have hm:D.countP q <= D.countP p:=List.countP_mono_left (fun y _ h=>hqp y h);rcases List.mem_cons.1 ha with rfl | h
  ·rw [List.countP_cons_of_pos hp,List.countP_cons_of_neg (by rw [hq];decide)];omega
  ·have h1:=ih h
   cases hx:q x
   ·rw [List.countP_cons_of_neg (by rw [hx];decide)]
    have h2:D.countP p <= (x :: D).countP p:=by rw [List.countP_cons];omega
    omega
   ·rw [List.countP_cons_of_pos hx,List.countP_cons_of_pos (hqp x hx)];omega
theorem runs_count (D:List Rn) (r:Int):∀ (X:List Rn) (l:Int),1 <= l -> form l X -> (∀ n,mem X n -> (⟨r,n⟩:Rn)∈D) -> X.length <= D.countP (fun d=>decide (d.lo=r) && decide (l <= d.hi))
 | [],_,_,_,_=>Nat.zero_le _
 | x :: X,l,hl,hf,hD=>by
  have h1:=hf.1;have h2:=hf.2.1;have h3:=runs_count D r X (x.hi+2) (by omega) hf.2.2.2 (fun n hn=>hD n ((mem_cons _ _ _).2 (.inr hn)));have h4:(⟨r,x.lo⟩:Rn)∈D:=hD x.lo ((mem_cons _ _ _).2 (.inl ⟨by omega,by have:=hf.2.2.1;omega,Int.le_refl _,h2⟩));have h5:=countP_more (p:=fun d=>decide (d.lo=r) && decide (l <= d.hi)) (q:=fun d=>decide (d.lo=r) && decide (x.hi+2 <= d.hi)) h4 (by simp;omega) (by simp;omega) (fun y hy=>by simp at hy ⊢;omega);simp only [List.length_cons];omega
theorem cloud_count {N:Nat -> List Rn} (D:List Rn):∀ k:Nat,(∀ r,r < k -> form 1 (N r)/\∀ n,mem (N r) n -> (⟨(r:Int),n⟩:Rn)∈D) -> (cloudN N k).length <= D.countP (fun d=>decide (0 <= d.lo) && decide (d.lo < (k:Int)))
 | 0,_=>Nat.zero_le _
 | k+1,h=>by
  have h1:=cloud_count D k (fun r hr=>h r (by omega));have h2:=restOf_len (N k);have h3:=runs_count D k (N k) 1 (Int.le_refl _) (h k (by omega)).1 (h k (by omega)).2
  have h4:D.countP (fun d=>decide (0 <= d.lo) && decide (d.lo < (k:Int)))+D.countP (fun d=>decide (d.lo=(k:Int)) && decide (1 <= d.hi)) <= D.countP (fun d=>decide (0 <= d.lo) && decide (d.lo < ((k+1:Nat):Int))):=by
   clear h h1 h2 h3
   induction D with
   | nil=>simp
   | cons x D ih =>
    rw [List.countP_cons,List.countP_cons,List.countP_cons]
    have h5:(if (decide (0 <= x.lo) && decide (x.lo < (k:Int)))=true then 1 else 0)+(if (decide (x.lo=(k:Int)) && decide (1 <= x.hi))=true then 1 else 0) <= (if (decide (0 <= x.lo) && decide (x.lo < ((k+1:Nat):Int)))=true then 1 else 0):=by
     simp only [Bool.and_eq_true,decide_eq_true_eq]
     split <;> split <;> split <;> omega
    omega
  rw [cloudN,List.length_append,tag_length];omega
theorem canon_count {G:Nat -> List Rn} {P:Pst} (h:CanonOf G P) (D:List Rn) (hD:∀ r:Nat,r < 16 -> ∀ n,mem (G r) n -> (⟨(r:Int),n⟩:Rn)∈D):P.cloud.length <= D.length:=by
 obtain ⟨N,hN,rfl⟩:=h;exact Nat.le_trans (cloud_count D 16 (fun r hr=>⟨(hN r hr).1,fun n hn=>hD r hr n (((hN r hr).2 n).1 hn)⟩)) List.countP_le_length
end
section
open Go.RowKit
def freeB (R:List Rc) (e:K.En):Bool := !R.any (fun r=>covB r e)
def ApA (w w':World) (x:Ending) (L:List K.En) (R:List Rc) (n:Nat):Prop:=(K.chk L=0/\OkR R n/\K.GivesEE w w' x (L.filter (freeB R)) 0)∨(¬ (K.chk L=0/\OkR R n)/\K.GivesEE w w' x [] 1)
end
end Go.Proofs.YthlbpeoiocdjlaaGreat
namespace Go.Proofs
open Go.Shelf
def Tryz.keysM_ren:Go.Shelf.Ren:=⟨fun | 7=>100 | 10=>147 | n=>n,fun | 23=>147 | 26=>9 | 3=>102 | 28=>151 | 0=>0 | 27=>150 | 33=>92 | 4=>4 | n=>n,fun | n=>n⟩
theorem Tryz.keysM:Go.Proofs.SlLaysZ.n7 Tryz.prog Tryz.keysM_ren:={
 mixed:=by kernel_rfl
 f7:=⟨Tryz.f100.name,by decide,Tryz.func100.trans (congrArg some (by kernel_rfl))⟩
 f10:=⟨Tryz.f147.name,by decide,Tryz.func147.trans (congrArg some (by kernel_rfl))⟩
 t0:=Tryz.underlying0
 a0:=Tryz.isAgg0
 z0:=Tryz.sizeOf0
 v0:=Tryz.zeroValue0
 t4:=Tryz.underlying4
 a4:=Tryz.isAgg4
 z4:=Tryz.sizeOf4
 v4:=Tryz.zeroValue4
 t23:=Tryz.underlying147
 a23:=Tryz.isAgg147
 z23:=Tryz.sizeOf147
 v23:=Tryz.zeroValue147
 t26:=Tryz.underlying9
 a26:=Tryz.isAgg9
 z26:=Tryz.sizeOf9
 v26:=Tryz.zeroValue9
 t27:=Tryz.underlying150
 a27:=Tryz.isAgg150
 z27:=Tryz.sizeOf150
 v27:=Tryz.zeroValue150
 t28:=Tryz.underlying151
 a28:=Tryz.isAgg151
 z28:=Tryz.sizeOf151
 v28:=Tryz.zeroValue151
 t33:=Tryz.underlying92
 a33:=Tryz.isAgg92
 z33:=Tryz.sizeOf92
 v33:=Tryz.zeroValue92 }
def Tryz.sortedM_ren:Go.Shelf.Ren:=⟨fun | 6=>99 | 8=>145 | 9=>146 | 11=>181 | 13=>136 | 12=>182 | 23=>177 | 24=>178 | 14=>202 | 15=>203 | 16=>204 | 17=>205 | 18=>206 | 19=>207 | 20=>208 | 21=>209 | 22=>210 | 25=>226 | 26=>198 | 27=>199 | 28=>227 | 29=>228 | 30=>229 | 31=>234 | n=>n,fun | 26=>9 | 28=>151 | 24=>148 | 0=>0 | 3=>3 | 37=>178 | 48=>210 | 50=>212 | 4=>4 | 40=>204 | 39=>203 | 45=>168 | 5=>5 | 9=>9 | 51=>223 | 55=>227 | 57=>242 | 58=>125 | 33=>92 | n=>n,fun | n=>n⟩
theorem Tryz.sortedM:Go.Proofs.SlLaysZ.n6 Tryz.prog Tryz.sortedM_ren:={
 mixed:=by kernel_rfl
 f6:=⟨Tryz.f99.name,by decide,Tryz.func99.trans (congrArg some (by kernel_rfl))⟩
 f8:=⟨Tryz.f145.name,by decide,Tryz.func145.trans (congrArg some (by kernel_rfl))⟩
 f11:=⟨Tryz.f181.name,by decide,Tryz.func181.trans (congrArg some (by kernel_rfl))⟩
 t0:=Tryz.underlying0
 a0:=Tryz.isAgg0
 z0:=Tryz.sizeOf0
 v0:=Tryz.zeroValue0
 t24:=Tryz.underlying148
 a24:=Tryz.isAgg148
 z24:=Tryz.sizeOf148
 v24:=Tryz.zeroValue148
 t26:=Tryz.underlying9
 a26:=Tryz.isAgg9
 z26:=Tryz.sizeOf9
 v26:=Tryz.zeroValue9
 t28:=Tryz.underlying151
 a28:=Tryz.isAgg151
 z28:=Tryz.sizeOf151
 v28:=Tryz.zeroValue151
 i26:=by kernel_rfl }
def Tryz.sortM_ren:Go.Shelf.Ren:=⟨fun | 6=>146 | 8=>136 | 9=>182 | 19=>177 | 20=>178 | 21=>202 | 22=>203 | 23=>204 | 24=>205 | 25=>206 | 26=>207 | 27=>208 | 28=>209 | 29=>210 | 36=>226 | 31=>198 | 32=>199 | 37=>227 | 38=>228 | 39=>229 | 41=>234 | n=>n,fun | 27=>148 | 29=>9 | 3=>3 | 32=>178 | 26=>148 | 0=>0 | 44=>210 | 46=>212 | 4=>4 | 36=>204 | 35=>203 | 41=>168 | 5=>5 | 9=>9 | 53=>223 | 57=>227 | 63=>242 | 64=>125 | n=>n,fun | n=>n⟩
theorem Tryz.sortM:Go.Proofs.SlLaysM.n6 Tryz.prog Tryz.sortM_ren:={
 mixed:=by kernel_rfl
 f6:=⟨Tryz.f146.name,by decide,Tryz.func146.trans (congrArg some (by kernel_rfl))⟩
 f8:=Tryz.func136.trans (congrArg some (by kernel_rfl))
 f9:=⟨Tryz.f182.name,by decide,Tryz.func182.trans (congrArg some (by kernel_rfl))⟩
 f19:=Tryz.func177.trans (congrArg some (by kernel_rfl))
 f20:=Tryz.func178.trans (congrArg some (by kernel_rfl))
 f21:=⟨Tryz.f202.name,by decide,Tryz.func202.trans (congrArg some (by kernel_rfl))⟩
 f22:=⟨Tryz.f203.name,by decide,Tryz.func203.trans (congrArg some (by kernel_rfl))⟩
 f23:=⟨Tryz.f204.name,by decide,Tryz.func204.trans (congrArg some (by kernel_rfl))⟩
 f24:=⟨Tryz.f205.name,by decide,Tryz.func205.trans (congrArg some (by kernel_rfl))⟩
 f25:=⟨Tryz.f206.name,by decide,Tryz.func206.trans (congrArg some (by kernel_rfl))⟩
 f26:=⟨Tryz.f207.name,by decide,Tryz.func207.trans (congrArg some (by kernel_rfl))⟩
 f27:=⟨Tryz.f208.name,by decide,Tryz.func208.trans (congrArg some (by kernel_rfl))⟩
 f28:=⟨Tryz.f209.name,by decide,Tryz.func209.trans (congrArg some (by kernel_rfl))⟩
 f29:=⟨Tryz.f210.name,by decide,Tryz.func210.trans (congrArg some (by kernel_rfl))⟩
 f31:=Tryz.func198.trans (congrArg some (by kernel_rfl))
 f32:=Tryz.func199.trans (congrArg some (by kernel_rfl))
 f36:=⟨Tryz.f226.name,by decide,Tryz.func226.trans (congrArg some (by kernel_rfl))⟩
 f37:=⟨Tryz.f227.name,by decide,Tryz.func227.trans (congrArg some (by kernel_rfl))⟩
 f38:=⟨Tryz.f228.name,by decide,Tryz.func228.trans (congrArg some (by kernel_rfl))⟩
 f39:=⟨Tryz.f229.name,by decide,Tryz.func229.trans (congrArg some (by kernel_rfl))⟩
 f41:=⟨Tryz.f234.name,by decide,Tryz.func234.trans (congrArg some (by kernel_rfl))⟩
 t0:=Tryz.underlying0
 a0:=Tryz.isAgg0
 z0:=Tryz.sizeOf0
 v0:=Tryz.zeroValue0
 t3:=Tryz.underlying3
 a3:=Tryz.isAgg3
 z3:=Tryz.sizeOf3
 v3:=Tryz.zeroValue3
 t4:=Tryz.underlying4
 a4:=Tryz.isAgg4
 z4:=Tryz.sizeOf4
 v4:=Tryz.zeroValue4
 t5:=Tryz.underlying5
 a5:=Tryz.isAgg5
 z5:=Tryz.sizeOf5
 v5:=Tryz.zeroValue5
 t9:=Tryz.underlying9
 a9:=Tryz.isAgg9
 z9:=Tryz.sizeOf9
 v9:=Tryz.zeroValue9
 t26:=Tryz.underlying148
 a26:=Tryz.isAgg148
 z26:=Tryz.sizeOf148
 v26:=Tryz.zeroValue148
 t27:=Tryz.underlying148
 a27:=Tryz.isAgg148
 z27:=Tryz.sizeOf148
 v27:=Tryz.zeroValue148
 t29:=Tryz.underlying9
 a29:=Tryz.isAgg9
 z29:=Tryz.sizeOf9
 v29:=Tryz.zeroValue9
 t32:=Tryz.underlying178
 a32:=Tryz.isAgg178
 z32:=Tryz.sizeOf178
 v32:=Tryz.zeroValue178
 t35:=Tryz.underlying203
 a35:=Tryz.isAgg203
 z35:=Tryz.sizeOf203
 v35:=Tryz.zeroValue203
 t36:=Tryz.underlying204
 a36:=Tryz.isAgg204
 z36:=Tryz.sizeOf204
 v36:=Tryz.zeroValue204
 t41:=Tryz.underlying168
 a41:=Tryz.isAgg168
 z41:=Tryz.sizeOf168
 v41:=Tryz.zeroValue168
 t44:=Tryz.underlying210
 a44:=Tryz.isAgg210
 z44:=Tryz.sizeOf210
 v44:=Tryz.zeroValue210
 t46:=Tryz.underlying212
 a46:=Tryz.isAgg212
 z46:=Tryz.sizeOf212
 v46:=Tryz.zeroValue212
 t53:=Tryz.underlying223
 a53:=Tryz.isAgg223
 z53:=Tryz.sizeOf223
 v53:=Tryz.zeroValue223
 t57:=Tryz.underlying227
 a57:=Tryz.isAgg227
 z57:=Tryz.sizeOf227
 v57:=Tryz.zeroValue227
 t63:=Tryz.underlying242
 a63:=Tryz.isAgg242
 z63:=Tryz.sizeOf242
 v63:=Tryz.zeroValue242
 t64:=Tryz.underlying125
 a64:=Tryz.isAgg125
 z64:=Tryz.sizeOf125
 v64:=Tryz.zeroValue125 }
end Go.Proofs
namespace Go.Proofs.YthlbpeoiocdjlaaGreat
section
open Go.RowKit Go.Maps Go.Sort Go.Shelf

theorem sorts_in (m:Nat):AnyZ.SortsIn Tryz.prog Tryz.sortedM_ren Fence.wide m:=
 ⟨fun blk off cap ss W hH hblk hsz=>callsIn_wide.2 (AnyM.slices_Sort_string Tryz.sortM blk off cap ss W hH hblk hsz),
 fun p cap W=>callsIn_wide.2 (AnyM.slices_Sort_string_none Tryz.sortM p cap W)⟩
theorem keys_any (mb:Option Nat) (W:World):Calls Tryz.prog 100 #[.map mb] W fun e w'=>e = .returned (.func (.func 147) #[] #[.pointer (some ⟨W.heap.size,0,none⟩)])/\w'=W.alloc (.cells #[.map mb] 147):=
 (callsIn_wide (n:=5)).1 (AnyZ.keys_in Tryz.keysM Fence.wide 5 trivial rfl mb W)
def GivesSs (w w':World) (e:Ending) (T:List (List UInt8)):Prop:=∃ v,e = .returned v/\w'.ownsRow w.heap.size 9 1 v T.length (T.map encStr)/\Below w.heap.size w w'
theorem sortedKeys_any {H:Type} (b nn:Nat) (D0:DataW H) (R:Value -> Option (DataW H × List MemPlace)) (w:World) (hown:w.ownsMap Tryz.prog 9 R b nn D0) (hmax:Maps.size D0 <= maxLen) (hbytes:Maps.size D0 * 16 <= 140737488355328) :
  Calls Tryz.prog 99 #[.func (.func 147) #[] #[.pointer (some ⟨w.heap.size,0,none⟩)]] (w.alloc (.cells #[.map (some b)] 147)) fun e w'=>∃ ss:List (List UInt8),ss.Perm (strKeys D0)/\GivesSs (w.alloc (.cells #[.map (some b)] 147)) w' e (ss.mergeSort leB):=by
 have hbl:=hown.lt
 have hseq:SeqGives Fence.wide 2 Tryz.prog 147 #[.pointer (some ⟨w.heap.size,0,none⟩)] encStr (fun ss=>ss.Perm (strKeys D0)) (Maps.size D0) (w.alloc (.cells #[.map (some b)] 147)):=
  AnyZ.keys_gives (ρ := Tryz.keysM_ren) { Tryz.keysM with } Fence.wide _ trivial rfl (by omega) w.heap.size b nn D0 _ (by simp) (by simp) (by
   obtain ⟨es,clock,hb,Ft,hs,hD⟩:=hown
   exact ⟨es,clock,(Below.heap_alloc _ _ b hbl).trans hb,Ft,hs,hD⟩)
 have h:=AnyZ.sorted_in Tryz.sortedM Fence.wide 5 trivial trivial trivial trivial rfl (by omega) (sorts_in _) (enters_of Tryz.func146 (by kernel_rfl) rfl) 147 #[.pointer (some ⟨w.heap.size,0,none⟩)] trivial (enters_of Tryz.func147 (by kernel_rfl) rfl) _ _ hmax hbytes _ hseq;refine ((callsIn_wide (n:=5)).1 h).mono ?_;rintro e w' ⟨v,ss,rfl,hS,hrow,_,hb⟩;refine ⟨ss,hS,v,rfl,?_,hb⟩;have e1:(ss.mergeSort leB).length=ss.length:=(List.mergeSort_perm ss leB).length_eq;rw [e1];exact hrow
end
section
open Go.RowKit

def mP (P:Pst):Nat -> Int -> Prop:=fun r n=>mem (runsAt P r) n
def mOr (M M':Nat -> Int -> Prop):Nat -> Int -> Prop:=fun r n=>M r n∨M' r n
def mAnd (M M':Nat -> Int -> Prop):Nat -> Int -> Prop:=fun r n=>M r n/\M' r n
def mNot (M M':Nat -> Int -> Prop):Nat -> Int -> Prop:=fun r n=>M r n/\¬ M' r n
def IsP (M:Nat -> Int -> Prop) (P:Pst):Prop:=∃ C,CanonOf C P/\∀ r,r < 16 -> ∀ n,mem (C r) n↔M r n
def Eqv (M M':Nat -> Int -> Prop):Prop:=∀ r,r < 16 -> ∀ n,M r n↔M' r n
theorem IsP.len {M:Nat -> Int -> Prop} {P:Pst} (h:IsP M P):P.cloud.length <= 8000000016:=by
 obtain ⟨C,hC,_⟩:=h;exact (canon_len hC).1
theorem isP_minus {a b:Pst} {P:Pst} (h:∃ C:Nat -> List Rn,(∀ r,r < 16 -> MinusOf (runsAt a r) (runsAt b r) (C r))/\CanonOf C P):IsP (mNot (mP a) (mP b)) P:=by
 obtain ⟨C,hM,hC⟩:=h;exact ⟨C,hC,fun r hr n=>(hM r hr).2 n⟩
def SzP (M:Nat -> Int -> Prop) (z:Int):Prop:=∃ N,(∀ r,r < 16 -> form 1 (N r)/\∀ n,Go.Proofs.YthlbpeoiocdjlaaGreat.mem (N r) n↔M r n)/\z=sumZ N 16
theorem SzP.none:SzP (fun _ _=>False) 0:=⟨fun _=>[],fun _ _=>⟨trivial,fun n=>⟨fun h=>mem_nil n h,fun h=>h.elim⟩⟩,by decide⟩
end
section
open Go.RowKit Go.Maps Go.Sort
theorem OwnRc.setOther {B:Nat} {w W:World} {h:Hs} {L:List Rc} (O:OwnRc B w W h L) (g:Nat) (cs:Array Value) (hg:w.heap.size <= g) (hne:(HsV h).ownBlock≠some g) (hf:∀ r∈L,PFar r.p g):OwnRc B w (W.setRow g cs) h L:=by
 have hs:(W.setRow g cs).heap.size=W.heap.size:=by simp [World.setRow]
 have hk:∀ q,q < W.heap.size -> some q≠some g -> (W.setRow g cs).heap[q]? = W.heap[q]?:=fun q _ hq=>setRow_other _ _ _ _ (fun e=>hq (by rw [e]));have hG:W.grownBy (W.setRow g cs) (some g):=⟨rfl,rfl,rfl,by omega,hk⟩;exact ⟨O.own.kept hG (.inr hne),fun r hr=>⟨⟨psrc_keep (O.ok r hr).1.1 (fun k e=>by obtain rfl:=Option.some.inj e;exact hf r hr) hk,(O.ok r hr).1.2⟩,(O.ok r hr).2⟩,below_setRow O.below hg,O.hB.1,by have:=O.hB.2;omega⟩
def ofS (R:List Rc) (s:ByteArray):List Pv:=(R.filter (fun r=>decide (r.s=s))).map (fun r=>r.p)
theorem ofS_len (R:List Rc) (s:ByteArray):(ofS R s).length <= R.length:=by unfold ofS;rw [List.length_map];exact List.length_filter_le _ _
theorem ofS_snoc (R:List Rc) (r:Rc) (s:ByteArray):pvs (ofS (R++[r]) s)=if s=r.s then pvs (ofS R s)++(PC r.p).toList else pvs (ofS R s):=by
 unfold ofS;rw [List.filter_append,List.map_append,pvs_append];by_cases h:s=r.s
 ·subst h;simp [pvs_one]
 ·have h':¬ r.s=s:=fun e=>h e.symm;simp [h,h',pvs]
theorem ofS_mem {R:List Rc} {s:ByteArray} {p:Pv}:p∈ofS R s↔∃ r∈R,r.s=s/\r.p=p:=by
 unfold ofS;rw [List.mem_map];constructor
 ·rintro ⟨r,hr,rfl⟩;have:=List.mem_filter.1 hr;exact ⟨r,this.1,by simpa using this.2,rfl⟩
 ·rintro ⟨r,hr,hs,rfl⟩;exact ⟨r,List.mem_filter.2 ⟨hr,by simpa using hs⟩,rfl⟩
theorem runsOf_mem (X:List Pv) (r:Nat) (n:Int):mem (runsOf X r) n↔∃ p∈X,mem (runsAt p.P r) n:=by
 induction X with
 | nil=>simp [runsOf,mem]
 | cons p X ih =>
  have e:runsOf (p :: X) r=runsAt p.P r++runsOf X r:=rfl;rw [e,mem_append,ih];simp
def nilF:ByteArray:=⟨#[]⟩
def FoldM (R:List Rc) (s:ByteArray) (r:Nat) (n:Int):Prop:=(∃ x∈R,x.s=s/\mem (runsAt x.p.P r) n)/\(s≠nilF -> ¬ ∃ x∈R,x.s=nilF/\mem (runsAt x.p.P r) n)
theorem join_all {R:List Rc} {s:ByteArray} {P:Pst} (h:CanonOf (runsOf (ofS R s)) P) (r:Nat) (hr:r < 16) (n:Int):mem (runsAt P r) n↔∃ x∈R,x.s=s/\mem (runsAt x.p.P r) n:=by
 rw [canon_mem h r hr n,runsOf_mem];constructor
 ·rintro ⟨p,hp,hm⟩;obtain ⟨x,hx,hs,rfl⟩:=ofS_mem.1 hp;exact ⟨x,hx,hs,hm⟩
 ·rintro ⟨x,hx,hs,hm⟩;exact ⟨x.p,ofS_mem.2 ⟨x,hx,hs,rfl⟩,hm⟩
theorem fold_nil {R:List Rc} {P:Pst} (h:CanonOf (runsOf (ofS R nilF)) P):IsP (FoldM R nilF) P:=
 ⟨_,h,fun r hr n=>by
  rw [<- canon_mem h r hr n,join_all h r hr n]
  exact ⟨fun h=>⟨h,fun e=>absurd rfl e⟩,fun h=>h.1⟩⟩
theorem fold_sku {R:List Rc} {s:ByteArray} {P A M:Pst} (hs:s≠nilF) (h:CanonOf (runsOf (ofS R s)) P) (ha:CanonOf (runsOf (ofS R nilF)) A) (hm:∃ C:Nat -> List Rn,(∀ r,r < 16 -> MinusOf (runsAt P r) (runsAt A r) (C r))/\CanonOf C M):IsP (FoldM R s) M:=by
 obtain ⟨C,hC,hI⟩:=isP_minus hm;refine ⟨C,hC,fun r hr n=>(hI r hr n).trans ?_⟩
 show mem (runsAt P r) n/\¬ mem (runsAt A r) n↔_
 rw [join_all h r hr n,join_all ha r hr n];exact ⟨fun h=>⟨h.1,fun _=>h.2⟩,fun h=>⟨h.1,h.2 hs⟩⟩
def FoldOf (R F:List Rc):Prop:=F.Pairwise (fun a b=>cmpS a.s b.s < 0)/\(∀ x∈F,(∃ r∈R,r.s=x.s)/\IsP (FoldM R x.s) x.p.P/\¬ EmptyP x.p.P)/\∀ s,(∃ r∈R,r.s=s) -> (∀ x∈F,x.s≠s) -> ∀ r,r < 16 -> ∀ n,¬ FoldM R s r n
def FPre (R:List Rc) (T:List (List UInt8)) (F:List Rc):Prop:=(F.map (fun x=>x.s.data.toList)).Sublist T/\(∀ x∈F,IsP (FoldM R x.s) x.p.P/\¬ EmptyP x.p.P)/\∀ t∈T,(∀ x∈F,x.s≠⟨t.toArray⟩) -> ∀ r,r < 16 -> ∀ n,¬ FoldM R ⟨t.toArray⟩ r n
theorem FPre.start (R:List Rc):FPre R [] []:=⟨List.Sublist.refl _,fun x h=>(by cases h),fun t h=>(by cases h)⟩
theorem FPre.skip {R F:List Rc} {T:List (List UInt8)} (h:FPre R T F) (t:List UInt8) (he:∀ r,r < 16 -> ∀ n,¬ FoldM R ⟨t.toArray⟩ r n):FPre R (T++[t]) F:=by
 refine ⟨h.1.trans (List.sublist_append_left _ _),h.2.1,fun u hu hn=>?_⟩;rcases List.mem_append.1 hu with hu | hu
 ·exact h.2.2 u hu hn
 ·obtain rfl:u=t:=by simpa using hu
  exact he
theorem FPre.add {R F:List Rc} {T:List (List UInt8)} (h:FPre R T F) (t:List UInt8) (x:Rc) (hx:x.s=⟨t.toArray⟩) (hI:IsP (FoldM R x.s) x.p.P) (hE:¬ EmptyP x.p.P):FPre R (T++[t]) (F++[x]):=by
 refine ⟨?_,fun y hy=>?_,fun u hu hn=>?_⟩
 ·rw [List.map_append];refine h.1.append ?_;simp [hx]
 ·rcases List.mem_append.1 hy with hy | hy
  ·exact h.2.1 y hy
  ·obtain rfl:y=x:=by simpa using hy
   exact ⟨hI,hE⟩
 ·rcases List.mem_append.1 hu with hu | hu
  ·exact h.2.2 u hu (fun y hy=>hn y (List.mem_append_left _ hy))
  ·obtain rfl:u=t:=by simpa using hu
   exact absurd hx (hn x (by simp))
theorem FPre.done {R F:List Rc} {T:List (List UInt8)} (h:FPre R T F) (hT:T.Pairwise (fun a b=>Lib.compareBytes a b < 0)) (hK:∀ t,t∈T↔∃ r∈R,r.s=⟨t.toArray⟩):FoldOf R F:=by
 refine ⟨List.pairwise_map.1 (hT.sublist h.1),fun x hx=>⟨?_,h.2.1 x hx⟩,fun s hs hn=>?_⟩
 ·have:=(hK x.s.data.toList).1 (h.1.subset (List.mem_map.2 ⟨x,hx,rfl⟩));simpa using this
 ·have hm:s.data.toList∈T:=(hK _).2 (by simpa using hs);have:=h.2.2 _ hm (by simpa using hn);simpa using this
end
end Go.Proofs.YthlbpeoiocdjlaaGreat
