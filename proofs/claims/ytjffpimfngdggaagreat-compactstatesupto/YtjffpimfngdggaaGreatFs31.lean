/- QCd QRm QRu HWa BCn BAo Lit BKe -/
import Derived.Test.YtjffpimfngdggaaGreatTk
import Derived.Test.YtjffpimfngdggaaGreatFs30
import Derived.Test.YtjffpimfngdggaaGreatFs00
import Derived.Test.YtjffpimfngdggaaGreatFs03
import Derived.Deep.RegionHeldLaw
import Derived.Test.YtjffpimfngdggaaGreatFs09
import Derived.Test.YtjffpimfngdggaaGreatFs24
import Derived.Test.YtjffpimfngdggaaGreatFs29
import Derived.Test.YtjffpimfngdggaaGreatFs23
import Derived.Test.YtjffpimfngdggaaGreatFs26
import Derived.Test.YtjffpimfngdggaaGreatFs06
import Derived.Test.YtjffpimfngdggaaGreatFs21
import Derived.Test.YtjffpimfngdggaaGreatFs19
import Derived.Shelf.SlIter.Nil
import Derived.Shelf.SortM.Plain
import Derived.Shelf.SortM.SortNone
import Derived.Test.YtjffpimfngdggaaGreatProg
set_option maxRecDepth 100000
set_option maxHeartbeats 6400000
namespace Go.Proofs.YtjffpimfngdggaaGreat
section
open Go.RowKit
attribute [local go_sem ↓] kV kF
attribute [local go_sem] xJ qY
def GivesSC (w w':World) (e:Ending) (k:Int) (N1 N2:Nat -> List Rn):Prop:=∃ (T:Nat -> Si) (N:Nat -> List Rn),e = .returned (JAv T)/\(∀ r,r < 16 -> V.Src w' (T r).ao (T r).n (T r).cap (tn (N r))/\(∀ ad,(T r).ao=some ad -> w.heap.size <= ad.block)/\CombOf k (N1 r) (N2 r) (N r))/\Below w.heap.size w w'
structure CbJ (w W:World) (k:Int) (T1 T2:Nat -> Si) (N1 N2:Nat -> List Rn) (T:Nat -> Si) (N:Nat -> List Rn) (j:Nat):Prop where
 a:ISets W w.heap.size 141 T1
 b:ISets W (w.heap.size+1) 141 T2
 z:ISets W (w.heap.size+1+1) 141 (fun _=>si0)
 s:ISets W (w.heap.size+1+1+1) 141 T
 bl:Below w.heap.size w W
 t:∀ r,r < j -> V.Src W (T r).ao (T r).n (T r).cap (tn (N r))/\(∀ ad,(T r).ao=some ad -> w.heap.size+1+1+1 < ad.block)/\CombOf k (N1 r) (N2 r) (N r)
theorem CbJ.start (w:World) (k:Int) (T1 T2:Nat -> Si) (N1 N2:Nat -> List Rn):CbJ w ((((w.alloc (.cells (JA T1) 141)).alloc (.cells (JA T2) 141)).alloc (.cells (JA fun _=>si0) 141)).alloc (.cells (JA fun _=>si0) 141)) k T1 T2 N1 N2 (fun _=>si0) (fun _=>[]) 0:=by
 have b1:=ze w (.cells (JA T1) 141);have b2:=ze (w.alloc (.cells (JA T1) 141)) (.cells (JA T2) 141);have b3:=ze ((w.alloc (.cells (JA T1) 141)).alloc (.cells (JA T2) 141)) (.cells (JA fun _=>si0) 141);have b4:=ze (((w.alloc (.cells (JA T1) 141)).alloc (.cells (JA T2) 141)).alloc (.cells (JA fun _=>si0) 141)) (.cells (JA fun _=>si0) 141);have i1:=qC w 141 T1;have i2:=qC (w.alloc (.cells (JA T1) 141)) 141 T2;have i3:=qC ((w.alloc (.cells (JA T1) 141)).alloc (.cells (JA T2) 141)) 141 (fun _=>si0);have i4:=qC (((w.alloc (.cells (JA T1) 141)).alloc (.cells (JA T2) 141)).alloc (.cells (JA fun _=>si0) 141)) 141 (fun _=>si0);have j1:=((i1.below b2).below b3).below b4;have j2:=(i2.below b3).below b4;have j3:=i3.below b4;simp only [World.size_alloc] at j1 j2 j3 i4;exact ⟨j1,j2,j3,i4,b1.trans ((b2.mono b1.size).trans ((b3.mono (b1.trans (b2.mono b1.size)).size).trans (b4.mono (b1.trans ((b2.mono b1.size).trans (b3.mono (b1.trans (b2.mono b1.size)).size))).size))),fun r h=>absurd h (by omega)⟩
theorem CbJ.on {w W W':World} {k:Int} {T1 T2:Nat -> Si} {N1 N2:Nat -> List Rn} {T:Nat -> Si} {N:Nat -> List Rn} {j:Nat} (I:CbJ w W k T1 T2 N1 N2 T N j) (hb:Below W.heap.size W W'):CbJ w W' k T1 T2 N1 N2 T N j:=
 ⟨I.a.below hb,I.b.below hb,I.z.below hb,I.s.below hb,I.bl.trans (hb.mono I.bl.size),fun r hr=>⟨(I.t r hr).1.below hb,(I.t r hr).2⟩⟩
theorem CbJ.push {w W W':World} {k:Int} {T1 T2:Nat -> Si} {N1 N2:Nat -> List Rn} {T:Nat -> Si} {N:Nat -> List Rn} {j:Nat} (I:CbJ w W k T1 T2 N1 N2 T N j) (hb:Below W.heap.size W W') {ao:Option Addr} {n c:Nat} {X:List Rn} (S:V.Src W' ao n c (tn X)) (hf:∀ ad,ao=some ad -> W.heap.size <= ad.block) (hN:CombOf k (N1 j) (N2 j) X) :
  CbJ w (W'.setCell ⟨w.heap.size+1+1+1,j,none⟩ (.slice ao n c)) k T1 T2 N1 N2 (Jset T j ⟨ao,n,c,[]⟩) (fun r=>if r=j then X else N r) (j+1):=by
 have hl:=I.s.lt;have J:=I.on hb;have hs:∀ {q:Nat},q≠w.heap.size+1+1+1 -> (W'.setCell ⟨w.heap.size+1+1+1,j,none⟩ (.slice ao n c)).heap[q]? = W'.heap[q]?:=fun h=>zw h;refine ⟨(hs (by omega)).trans J.a,(hs (by omega)).trans J.b,(hs (by omega)).trans J.z,(I.s.below hb).set j ⟨ao,n,c,[]⟩ _ rfl,V.zV J.bl (by simp;omega),fun r hr=>?_⟩;by_cases h:r=j
 ·subst h;rw [qZ,if_pos rfl];exact ⟨km S (fun ad h=>hs (by have:=hf ad h;omega)),fun ad h=>by have:=hf ad h;omega,hN⟩
 ·rw [qf _ _ _ _ h,if_neg h];obtain ⟨h1,h2,h3⟩:=I.t r (by omega);exact ⟨km (h1.below hb) (fun ad h=>hs (by have:=h2 ad h;omega)),h2,h3⟩
theorem zbs (T1 T2:Nat -> Si) (N1 N2:Nat -> List Rn) (k:Int) (w:World) (hS1:∀ r,r < 16 -> V.Src w (T1 r).ao (T1 r).n (T1 r).cap (tn (N1 r))/\form 1 (N1 r)) (hS2:∀ r,r < 16 -> V.Src w (T2 r).ao (T2 r).n (T2 r).cap (tn (N2 r))/\form 1 (N2 r)) (hk:k=1∨k=2) :
  Calls Tryz.prog 120 #[JAv T1,JAv T2,.int .i64 k] w fun e w'=>GivesSC w w' e k N1 N2:=by
 have HS1:=hide hS1;have HS2:=hide hS2;have HK:=hide hk;clear hS1 hS2 hk;have HJ0:=hide (CbJ.start w k T1 T2 N1 N2);go_enter Tryz.func120,Tryz.ntmps120;go_wp2_with fail;go_loopw [8] (fun i wr=>∃ (j:Nat) (T:Nat -> Si) (N:Nat -> List Rn),j <= 16/\i = .int .i64 j/\Hid (CbJ w wr k T1 T2 N1 N2 T N j)) (fun i _=>16 - (intOf i).toNat)
 case atStart=>exact ⟨0,_,_,Nat.zero_le _,rfl,HJ0⟩
 case round =>
  obtain ⟨y,T,N,hy16,rfl,HJ⟩:=hrel
  rename World=>w6
  clear HJ0;by_cases hy:y < 16
  ·have HGL:=hide HJ.out.s.lt;have sA:=(HS1.out y hy).1.below HJ.out.bl;have sB:=(HS2.out y hy).1.below HJ.out.bl;have HFA:=hide (HS1.out y hy).2;have HFB:=hide (HS2.out y hy).2;have c1:=HJ.out.a.cell y hy;have c2:=HJ.out.b.cell y hy;obtain ⟨sa,n,ca,sb,m,cb,hf⟩:∃ sa n ca sb m cb,(T1 y).ao=sa/\(T1 y).n=n/\(T1 y).cap=ca/\(T2 y).ao=sb/\(T2 y).n=m/\(T2 y).cap=cb:=⟨_,_,_,_,_,_,rfl,rfl,rfl,rfl,rfl,rfl⟩;rw [hf.1,hf.2.1,hf.2.2.1] at sA c1;rw [hf.2.2.2.1,hf.2.2.2.2.1,hf.2.2.2.2.2] at sB c2;have HSA:=hide (sA.below (zf w6));have HSB:=hide (sB.below (zf w6));have HSW:Hid (∀ W':World,(∀ q,q < w.heap.size+1+1+1 -> W'.heap[q]? = w6.heap[q]?) -> W'.cell? ⟨w.heap.size,y,none⟩=some (.slice sa n ca)/\W'.cell? ⟨w.heap.size+1,y,none⟩=some (.slice sb m cb)):=fun W' h=>⟨(World.cell?_of_block (h _ (by show w.heap.size < _;omega))).trans c1,(World.cell?_of_block (h _ (by show w.heap.size+1 < _;omega))).trans c2⟩
   clear sA sB hf
   have y0:(0:Int) <= (y:Int):=by omega
   have y1:(y:Int) < 16:=by omega
   go_wp2_with fail;refine wp_region_held_drew (S:=fun W=>W.cell? ⟨w.heap.size,y,none⟩=some (.slice sa n ca)/\W.cell? ⟨w.heap.size+1,y,none⟩=some (.slice sb m cb)) (by kernel_rfl) (HSW.out _ (fun q _=>rfl)) (fun hHeld=>?_);refine wU 0 ?_;refine wU 1 ?_;refine wU 2 ?_;refine wU 3 ?_;refine wU 4 ?_;refine wU 5 ?_;refine wU 6 ?_;refine wU 7 ?_;refine wU 8 ?_;refine wU 9 ?_;refine wU 11 ?_;refine wpAnyH_ready (rs:=[10]) (by kernel_rfl) (by simp) (.cons rfl (fun K hK=>?_) .nil);go_simp;go_wp2_with fail;have HJD:=hide (HJ.out.on (zf w6));refine (zcd _ _ _ _ _ _ _ _ _ _ HSA.out HSB.out HFA.out HFB.out HK.out).mono ?_;rintro e w8 ⟨t9,tt,tc,TX,rfl,S8,f8,b8,N8⟩;have HP:=hide (HJD.out.push b8 S8 f8 N8);have HKA:Hid (∀ q,q < w6.heap.size -> w8.heap[q]? = w6.heap[q]?):=fun q hq=>b8.block q hq;have HS8:=(HJD.out.s.below b8)
   have e2:=HS8.frozen y;have e1:=HS8.cell y hy;have HKB:Hid (∀ q,q < w.heap.size+1+1+1 -> (w8.setCell ⟨w.heap.size+1+1+1,y,none⟩ (.slice t9 tt tc)).heap[q]? = w6.heap[q]?):=fun q hq=>(zw (by omega)).trans (HKA.out q (by have:=HGL.out;omega));refine hK.out _ _ (HSW.out _ (fun q hq=>HKA.out q (by have:=HGL.out;omega))) (fun hHeld=>?_);clear hK K;refine wU 12 ?_;refine wpAnyH_ready (rs:=[13]) (by kernel_rfl) (by simp) (.cons rfl (fun K hK=>?_) .nil);go_simp;refine hK.out _ _ (HSW.out _ HKB.out) (fun hHeld=>?_);clear hK K;refine wpAnyH_done (by kernel_rfl) ?_ _;clear hHeld S8 f8 b8 N8 HKA HKB HS8 e1 e2;go_wp2_with fail;go_roundw
   case rel=>exact ⟨y+1,_,_,by omega,by go_num,HP⟩
   case measure=>simp [intOf];omega
  ·obtain rfl:y=16:=by omega
   have hld:=zeq HJ.out.s;have hst:=bL (F':=T) HJ.out.z;have HRes:=hide (ISets.setRow (F':=T) HJ.out.z)
   have HFin:Hid (GivesSC w (w6.setRow (w.heap.size+1+1) (JA T)) (.returned (JAv T)) k N1 N2):=by
    refine ⟨T,N,rfl,fun r hr=>?_,zh HJ.out.bl (by omega)⟩;obtain ⟨h1,h2,h3⟩:=HJ.out.t r hr;exact ⟨km h1 (fun ad h=>setRow_other _ _ _ _ (fun e=>by have:=h2 ad h;omega)),fun ad h=>by have:=h2 ad h;omega,h3⟩
   clear HJ;go_wp2_with fail;exact bodyPost_ret (v:=JAv T) (resJ Tryz.results120 rfl HRes.out) rfl HFin.out
end
section
open Go.RowKit
attribute [local go_sem ↓] zr zq kV kF
attribute [local go_sem] xJ qY zE zi qq zk qI
theorem zdS {A B a b c:List Rn} (ha:NormOf A a) (hb:NormOf B b) (h:CombOf 2 a b c):MinusOf A B c:=⟨h.1,fun n=>by rw [h.2 n,ha.2 n,hb.2 n];simp⟩
theorem vT (a b:Pv) (w:World) (hA:PSrc w a) (hB:PSrc w b) :
  Calls Tryz.prog 73 #[PV a,PV b] w fun e w'=>GivesP w w' e (fun P=>∃ C:Nat -> List Rn,(∀ r,r < 16 -> MinusOf (runsAt a.P r) (runsAt b.P r) (C r))/\CanonOf C P):=by
 have b1:=ze w (.cells (PC a) 26);have b2:=ze (w.alloc (.cells (PC a) 26)) (.cells (PC b) 26);have b3:=ze ((w.alloc (.cells (PC a) 26)).alloc (.cells (PC b) 26)) (.cells (PC pv0) 26);have p2:=zm (w.alloc (.cells (PC a) 26)) b;have p3:=zm ((w.alloc (.cells (PC a) 26)).alloc (.cells (PC b) 26)) pv0;simp only [World.size_alloc] at p2 p3;have HX1:=hide (((zm w a).below b2).below b3);have HX2:=hide (p2.below b3);have HX3:=hide p3;have HBK:=hide (b1.trans ((b2.trans (b3.mono b2.size)).mono b1.size));have HAS:=hide (hA.below HBK.out);have HBS:=hide (hB.below HBK.out);clear hA hB b1 b2 b3 p2 p3;obtain ⟨wk,hwk⟩:∃ wk,((w.alloc (.cells (PC a) 26)).alloc (.cells (PC b) 26)).alloc (.cells (PC pv0) 26)=wk:=⟨_,rfl⟩
 have HWZ:Hid (wk.heap.size=w.heap.size+1+1+1):=by show _=_;rw [<- hwk];simp
 rw [hwk] at HX1 HX2 HX3 HBK HAS HBS;have HCK:Hid (Below wk.heap.size wk wk):=Below.refl _ _;have HSW:Hid (∀ W':World,Below wk.heap.size wk W' -> (ldP (.pointer (some ⟨w.heap.size,0,none⟩))).run Tryz.prog W' = .ok (PV a) W'/\(ldP (.pointer (some ⟨w.heap.size+1,0,none⟩))).run Tryz.prog W' = .ok (PV b) W'):=fun W' h=>⟨zj (HX1.out.below h).at,zj (HX2.out.below h).at⟩;have HSR:Hid (∀ (W':World) (p:Pv),Below wk.heap.size wk W' -> (ldP (.pointer (some ⟨w.heap.size,0,none⟩))).run Tryz.prog (W'.setRow (w.heap.size+1+1) (PC p)) = .ok (PV a) (W'.setRow (w.heap.size+1+1) (PC p))/\(ldP (.pointer (some ⟨w.heap.size+1,0,none⟩))).run Tryz.prog (W'.setRow (w.heap.size+1+1) (PC p)) = .ok (PV b) (W'.setRow (w.heap.size+1+1) (PC p))):=fun W' p h=>⟨zj (show PBox _ _ _ from (setRow_other _ _ _ _ (by omega)).trans (HX1.out.below h)).at,zj (show PBox _ _ _ from (setRow_other _ _ _ _ (by omega)).trans (HX2.out.below h)).at⟩
 go_enter Tryz.func73,Tryz.ntmps73;go_wp2_with fail;clear hwk;refine wp_region_held_drew (S:=fun W=>(ldP (.pointer (some ⟨w.heap.size,0,none⟩))).run Tryz.prog W = .ok (PV a) W/\(ldP (.pointer (some ⟨w.heap.size+1,0,none⟩))).run Tryz.prog W = .ok (PV b) W) (by kernel_rfl) (HSW.out _ (zf _)) (fun hHeld=>?_);refine wU 0 ?_;refine wU 2 ?_;refine wpAnyH_ready (rs:=[1]) (by kernel_rfl) (by simp) (.cons rfl (fun K hK=>?_) .nil);go_simp;go_wp2_with fail;refine (zab a _ (by exact HAS.out.below (HCK.out.trans ((zf wk).mono HCK.out.size)))).mono ?_;rintro e w2 ⟨Ta,Na,rfl,hT,hb⟩;have HBw2:=hide ((zf wk).trans (hb.mono (zf wk).size));have HCw2:=wTr HCK HBw2.out;have HTa:=hide hT;clear hT hb;refine hK.out _ _ (HSW.out _ HCw2.out) (fun hHeld=>?_);clear hK K;refine wpAnyH_ready (rs:=[3]) (by kernel_rfl) (by simp) (.cons rfl (fun K hK=>?_) .nil)
 go_simp;go_wp2_with fail;refine (zab b _ (by exact HBS.out.below HCw2.out)).mono ?_;rintro e w3 ⟨Tb,Nb,rfl,hT,hb⟩;have HBw3:=hide hb;have HCw3:=wTr HCw2 HBw3.out;have HTb:=hide hT;clear hT hb;refine hK.out _ _ (HSW.out _ HCw3.out) (fun hHeld=>?_);clear hK K;have HFa:Hid (∀ r,r < 16 -> V.Src w3 (Ta r).ao (Ta r).n (Ta r).cap (tn (Na r))/\NormOf (runsAt a.P r) (Na r)):=fun r hr=>⟨(HTa.out r hr).1.below HBw3.out,(HTa.out r hr).2.2⟩;have HFb:Hid (∀ r,r < 16 -> V.Src w3 (Tb r).ao (Tb r).n (Tb r).cap (tn (Nb r))/\NormOf (runsAt b.P r) (Nb r)):=fun r hr=>⟨(HTb.out r hr).1,(HTb.out r hr).2.2⟩;refine wpAnyH_ready (rs:=[4]) (by kernel_rfl) (by simp) (.cons rfl (fun K hK=>?_) .nil);go_simp;go_wp2_with fail;refine (zbs Ta Tb Na Nb 2 _ (fun r hr=>⟨(HFa.out r hr).1,(HFa.out r hr).2.1⟩) (fun r hr=>⟨(HFb.out r hr).1,(HFb.out r hr).2.1⟩) (Or.inr rfl)).mono ?_
 rintro e w5 ⟨T,N,rfl,hT,hb⟩;have HBw5:=hide hb;have HCw5:=wTr HCw3 HBw5.out;have HT:=hide hT;clear hT hb;refine hK.out _ _ (HSW.out _ HCw5.out) (fun hHeld=>?_);clear hK K;refine wpAnyH_ready (rs:=[5]) (by kernel_rfl) (by simp) (.cons rfl (fun K hK=>?_) .nil);go_simp;go_wp2_with fail;refine (ko T N _ (fun r hr=>⟨(HT.out r hr).1,(HT.out r hr).2.2.1⟩)).mono ?_;rintro e w6 ⟨p,rfl,S6,n6,b6,c6⟩;have HBw6:=hide b6;have HCw6:=wTr HCw5 HBw6.out;have hsz:=HCw5.out.size;have hwz:=HWZ.out;obtain ⟨e1,e2,e3,e4,e5⟩:=qt (w:=w) (HX3.out.below HCw6.out) S6 (n6.mono (by show _ <= w5.heap.size;omega)) (HBK.out.trans (HCw6.out.mono HBK.out.size)) (by omega);have HRes:=hide e2;have HFin:Hid (GivesP w _ (.returned (PV p)) (fun P=>∃ C:Nat -> List Rn,(∀ r,r < 16 -> MinusOf (runsAt a.P r) (runsAt b.P r) (C r))/\CanonOf C P)):=⟨p,rfl,e3,e4,e5,N,fun r hr=>zdS (HFa.out r hr).2 (HFb.out r hr).2 (HT.out r hr).2.2,N,fun r hr=>⟨(HT.out r hr).2.2.1,fun _=>Iff.rfl⟩,c6⟩
 have HSL:=hide (HSW.out _ HCw6.out);clear S6 n6 b6 c6 e2 e3 e4 e5;refine hK.out _ _ HSL.out (fun hHeld=>?_);clear hK K;refine wpAnyH_ready (rs:=[6]) (by kernel_rfl) (by simp) (.cons rfl (fun K hK=>?_) .nil);go_simp;refine hK.out _ _ (HSR.out _ _ HCw6.out) (fun hHeld=>?_);clear hK K;refine wpAnyH_done (by kernel_rfl) ?_ _;clear hHeld hsz hwz;go_wp2_with fail;exact bodyPost_ret (v:=PV p) (resP Tryz.results73 rfl HRes.out) rfl HFin.out
end
section
open Go.RowKit
attribute [local go_sem ↓] zr zq kV kF
attribute [local go_sem] xJ qY zE zi qq zk qI
theorem kJ (a b:Pv) (w:World) (hA:PSrc w a) (hB:PSrc w b):Calls Tryz.prog 81 #[PV a,PV b] w fun e w'=>∃ x,e = .returned (.bool x)/\(x=true↔∀ r,r < 16 -> ∀ n,mem (runsAt a.P r) n -> mem (runsAt b.P r) n)/\Below w.heap.size w w':=by
 have b1:=ze w (.cells (PC a) 26);have b2:=ze (w.alloc (.cells (PC a) 26)) (.cells (PC b) 26);have p2:=zm (w.alloc (.cells (PC a) 26)) b;simp only [World.size_alloc] at p2
 have l1:=zj ((zm w a).below b2).at
 have l2:=zj p2.at
 have HBK:=hide (b1.trans (b2.mono b1.size));have HA:=hide (hA.below HBK.out);have HB:=hide (hB.below HBK.out);clear hA hB b1 b2 p2;go_enter Tryz.func81,Tryz.ntmps81;go_wp2_with fail;refine (vT a b _ HA.out HB.out).mono ?_;rintro e w3 ⟨p,rfl,S3,n3,b3,C,hC,c3⟩;have HS3:=hide S3;have HB3:=wTr HBK b3;have HC:=hide (And.intro hC c3);clear S3 n3 b3 hC c3 l1 l2;go_wp2_with fail;refine (xC p _ HS3.out).mono ?_;rintro e w4 ⟨x,rfl,hx,b4⟩
 have HFin:Hid (∃ y,(Ending.returned (.bool x):Ending) = .returned (.bool y)/\(y=true↔∀ r,r < 16 -> ∀ n,mem (runsAt a.P r) n -> mem (runsAt b.P r) n)/\Below w.heap.size w w4):=by
  refine ⟨x,rfl,?_,HB3.out.trans (b4.mono HB3.out.size)⟩;rw [hx];have key:∀ r,r < 16 -> ∀ n,(mem (runsAt p.P r) n↔mem (runsAt a.P r) n/\¬ mem (runsAt b.P r) n):=fun r hr n=>(zO HC.out.2 r hr n).trans ((HC.out.1 r hr).2 n);constructor
  ·intro h r hr n hm;by_cases hb:mem (runsAt b.P r) n
   ·exact hb
   ·exact absurd ((key r hr n).2 ⟨hm,hb⟩) (h r hr n)
  ·intro h r hr n hm;obtain ⟨h1,h2⟩:=(key r hr n).1 hm;exact h2 (h r hr n h1)
 clear hx b4;go_wp2_with fail;go_ret;exact HFin.out
end
section
open Go.RowKit Go.Maps
open Classical in
noncomputable def waitB (P:Pst) (y:Rp):Bool:=decide (¬ wiP y.2 P)
def WtOf (L:List Rc) (P:Pst) (F:List Rc):Prop:=(∀ r∈F,RecOk r)/\plR F=(plR L).filter (waitB P)
theorem bw {P:Pst} {y:Rp} (h:wiP y.2 P):waitB P y=false:=by unfold waitB;simp [h]
theorem wM {P:Pst} {y:Rp} (h:¬ wiP y.2 P):waitB P y=true:=by unfold waitB;simp [h]
structure WtI (L:List Rc) (P:Pst) (k:Nat) (D:List Rc):Prop where
 ok:∀ r∈D,RecOk r
 eq:plR D=(plR (L.take k)).filter (waitB P)
theorem WtI.start (L:List Rc) (P:Pst):WtI L P 0 []:=⟨fun r h=>(by cases h),rfl⟩
theorem WtI.skip {L:List Rc} {P:Pst} {k:Nat} {D:List Rc} {r:Rc} (h:WtI L P k D) (hk:k < L.length) (hr:L.getD k rc0=r) (hw:wiP r.p.P P):WtI L P (k+1) D:=by
 refine ⟨h.ok,?_⟩;rw [kS L k hk,hr,List.filter_append,<- h.eq,List.filter_cons_of_neg (by rw [bw (show wiP (r.s,r.p.P).2 P from hw)];decide),List.filter_nil,List.append_nil]
theorem WtI.add {L:List Rc} {P:Pst} {k:Nat} {D:List Rc} {r c:Rc} (h:WtI L P k D) (hk:k < L.length) (hr:L.getD k rc0=r) (hw:¬ wiP r.p.P P) (hc:RecOk c) (e:rck c=rck r):WtI L P (k+1) (D++[c]):=by
 refine ⟨jg h.ok hc,?_⟩;rw [kS L k hk,hr,List.filter_append,<- h.eq,List.filter_cons_of_pos (wM (show ¬ wiP (r.s,r.p.P).2 P from hw)),List.filter_nil,yi,e];rfl
theorem WtI.done {L:List Rc} {P:Pst} {D:List Rc} (h:WtI L P L.length D):WtOf L P D:=⟨h.ok,by rw [h.eq,List.take_length]⟩
def WtA (w w':World) (x:Ending) (L:List Rc) (n:Nat) (P:Pst):Prop:=(OkR L n/\InForm P/\∃ (h:Hs) (F:List Rc),x = .returned (.tuple #[HsV h,.int .i64 0])/\GvR w w' h F/\h.n <= n/\WtOf L P F)∨(¬ (OkR L n/\InForm P)/\x = .returned (.tuple #[.slice none 0 0,.int .i64 1])/\Below w.heap.size w w')
attribute [local go_sem ↓] zr zq qd zZ
attribute [local go_sem] zi zk zI zU qi
theorem jF (ao:Option Addr) (n ca:Nat) (L:List Rc) (p:Pv) (w:World) (hS:RcT w ao n ca L) (hP:PSrc w p) (hn:n <= 2199023255551) :
  Calls Tryz.prog 34 #[.slice ao n ca,PV p] w fun x w'=>WtA w w' x L n p.P:=by
 have b1:=ze w (.cells (PC p) 26);have x1:=zm w p;obtain ⟨wk,hwk⟩:∃ w1,w.alloc (.cells (PC p) 26)=w1:=⟨_,rfl⟩;obtain ⟨G,hG⟩:∃ g1,w.heap.size=g1:=⟨_,rfl⟩;rw [hwk] at b1 x1;rw [hG] at x1;have HBK:=hide b1;have HX:=hide x1;have HS:=hide (hS.below b1);have HP:=hide (hP.below b1);have HLn:Hid (L.length=n):=hS.src.len;have HN:=hide hn;clear b1 x1 hS hP;go_enter Tryz.func34,Tryz.ntmps34;go_wp2_with fail;clear hwk hG;refine (xp ao n ca L _ HS.out.src).mono ?_;rintro x w1 ⟨z,rfl,hz,b1⟩;have HB1:=hide b1
 have lp:=zj (HX.out.below b1).at
 clear b1;rcases hz with ⟨rfl,hO⟩ | ⟨rfl,hO⟩;rotate_left
 ·have HE:Hid (WtA w w1 (.returned (.tuple #[.slice none 0 0,.int .i64 1])) L n p.P):=.inr ⟨fun h=>hO h.1,rfl,HBK.out.trans (HB1.out.mono HBK.out.size)⟩;clear hO lp;go_wp2_with fail;go_ret2;exact HE.out
 have HO:=hide hO;clear hO;go_wp2_with fail;clear lp;refine (q9 p _ (HP.out.below HB1.out)).mono ?_;rintro x w0 ⟨b,rfl,hb,b2⟩;have HB0:=wTr HB1 b2;clear b2
 cases b with
 | false =>
  have HE:Hid (WtA w w0 (.returned (.tuple #[.slice none 0 0,.int .i64 1])) L n p.P):=.inr ⟨fun h=>(by have:=hb.2 h.2;cases this),rfl,HBK.out.trans (HB0.out.mono HBK.out.size)⟩;clear hb;go_wp2_with fail;go_ret2;exact HE.out
 | true =>
  have HF:=hide (hb.1 rfl);have HOL:=hide (xH.1 (by rw [HLn.out];exact HO.out):(∀ r∈L,RecOk r)/\Srt ck (plR L));clear hb;go_wp2_with fail;go_loopw [6,8,19] (fun v _ i wr=>∃ (k:Nat) (h:Hs) (D:List Rc),k <= n/\v = .slice h.o h.n h.c/\i = .int .i64 (k:Int)/\Hid (OwnRc w0.heap.size w0 wr h D/\WtI L p.P k D/\(∀ r∈D,PNew w0.heap.size r.p)/\h.n <= k)) (fun _ _ i _=>n - (intOf i).toNat)
  case atStart=>exact ⟨0,hs0,[],Nat.zero_le _,rfl,rfl,OwnRc.nil w0,WtI.start L _,fun r hr=>(by cases hr),Nat.le_refl _⟩
  case round =>
   obtain ⟨k,h,D,hk,rfl,rfl,HI⟩:=hrel
   rename World=>wr
   have HBr:Hid (Below wk.heap.size wk wr):=HB0.out.trans (HI.out.1.below.mono HB0.out.size);have hnb:=HN.out;by_cases hlt:k < n
   ·have hlti:(k:Int) < (n:Int):=by omega
    obtain ⟨ad,hao,A0⟩:=(HS.out.below HBr.out).src.at k hlt;have hOk:=(HS.out.below HBr.out).src.okAt k hlt;obtain ⟨r,Hr⟩:∃ r,Hid (L.getD k rc0=r):=⟨_,rfl⟩;rw [Hr.out] at A0 hOk
    have HRo:Hid (RecOk r):=by
     have h:=HOL.out.1 _ (jm (L:=L) (j:=k) (by rw [HLn.out];exact hlt));rw [Hr.out] at h;exact h
    subst hao;have hld:=zz A0;obtain ⟨g7,hg7⟩:∃ g7,wr.heap.size=g7:=⟨_,rfl⟩;obtain ⟨w7,hst,X7,B7,S7⟩:=madeRe wr (mkR r) g7 hg7;have HO7:=hide (HI.out.1.later B7);have HB7:=wTr HBr B7;have HX7:=hide X7;have HQ7:=hide (hOk.below B7);have lr:=zj X7.past
    have lp:=zj (HX.out.below HB7.out).at
    have Hlt:=hide hlt;clear A0 X7 B7 S7 hOk hlt hk;go_wp2_with fail;clear hst hld hg7 lr lp;refine (zbD r.p p _ HQ7.out.1 (HP.out.below HB7.out) HRo.out.2.1 HF.out).mono ?_;rintro e w8 ⟨b,rfl,hb,b8⟩;have HO8:=hide (HO7.out.later b8);have Hb:=hide hb;have HQ8:=hide (HQ7.out.below b8);have l7:=qH (HX7.out.below b8);clear hb b8
    cases b with
    | true =>
     have HN2:Hid (OwnRc w0.heap.size w0 w8 h D/\WtI L p.P (k+1) D/\(∀ r∈D,PNew w0.heap.size r.p)/\h.n <= k+1):=⟨HO8.out,HI.out.2.1.skip (by rw [HLn.out];exact Hlt.out) Hr.out (Hb.out.1 rfl),HI.out.2.2.1,by have:=HI.out.2.2.2;omega⟩;go_wp2_with fail;clear l7;go_roundw
     case rel=>exact ⟨k+1,h,D,Hlt.out,rfl,by simp,HN2.out⟩
     case measure=>simp [intOf];have:=Hlt.out;omega
    | false =>
     have Hno:Hid (¬ wiP r.p.P p.P):=fun h=>by have:=Hb.out.2 h;cases this
     go_wp2_with fail;clear l7;refine (kc r _ HQ8.out).mono ?_;rintro e wa ⟨c,rfl,hcs,Rc1,Nc,ba,Cc⟩;have Oa:=HO8.out.later ba;have hfar:FarH h c.p:=fun j hj=>PFar.new Nc (HO8.out.own.lt j hj).2;obtain ⟨gb,cb2,wb,hab,Ob,hkb,hgb,hsb⟩:=Oa.appAt c Rc1 hfar (by have:=HI.out.2.2.2;have:=HN.out;have:=Hlt.out;omega);have HAb:Hid ((Builtin.append_ #[27,27] 27 #[.slice h.o h.n h.c,.slice (some ⟨wa.heap.size,0,none⟩) 1 1]).run Tryz.prog (wa.alloc (.cells #[.string c.s,.slice c.p.vo c.p.vn c.p.vc,.slice c.p.co c.p.cn c.p.cc] 78)) = .ok (.slice (some ⟨gb,0,none⟩) (h.n+1) cb2) wb):=hab;have e:=wE HRo.out hcs Cc;have HN2:Hid (OwnRc w0.heap.size w0 wb ⟨some ⟨gb,0,none⟩,h.n+1,cb2⟩ (D++[c])/\WtI L p.P (k+1) (D++[c])/\(∀ r∈D++[c],PNew w0.heap.size r.p)/\h.n+1 <= k+1):=⟨Ob,HI.out.2.1.add (by rw [HLn.out];exact Hlt.out) Hr.out Hno.out (kQ HRo.out e) e,jg HI.out.2.2.1 (Nc.mono HO8.out.below.size),by have:=HI.out.2.2.2;omega⟩
     clear hab Ob Oa hfar hcs Rc1 Nc ba Cc hkb hgb hsb e;go_wp2_with (at_builtin;refine xK rfl (.tmp 28) (.tmp 31) rfl rfl rfl HAb.out ?_);go_roundw
     case rel=>exact ⟨k+1,⟨some ⟨gb,0,none⟩,h.n+1,cb2⟩,D++[c],Hlt.out,rfl,by simp,HN2.out⟩
     case measure=>simp [intOf];have:=Hlt.out;omega
   ·have hlti:¬ (k:Int) < (n:Int):=by omega
    have HE:Hid (WtA w wr (.returned (.tuple #[.slice h.o h.n h.c,.int .i64 0])) L n p.P):=by
     obtain ⟨q1,q2,q3,q4⟩:=HI.out;rw [show k=L.length by rw [HLn.out];omega] at q2;exact .inl ⟨HO.out,HF.out,h,D,rfl,q1.give (HBK.out.trans (HB0.out.mono HBK.out.size)) q3 (by omega),by omega,q2.done⟩
    clear HI;go_wp2_with fail;go_ret2;exact HE.out
def WrA (w w':World) (x:Ending) (L:List Rc) (n:Nat) (P:Pst):Prop:=(OkR L n/\InForm P/\∃ (h:Hs) (F:List Rc),x = .returned (.tuple #[HsV h,.int .i64 0])/\RcT w' h.o h.n h.c F/\(∀ ad,h.o=some ad -> w.heap.size <= ad.block)/\h.n <= n/\Below w.heap.size w w'/\WtOf L P F)∨(¬ (OkR L n/\InForm P)/\x = .returned (.tuple #[.slice none 0 0,.int .i64 1])/\Below w.heap.size w w')
theorem za0 (ao:Option Addr) (n ca:Nat) (L:List Rc) (p:Pv) (w:World) (hS:RcT w ao n ca L) (hP:PSrc w p) (hn:n <= 2199023255551) :
  Calls Tryz.prog 71 #[.slice ao n ca,PV p] w fun x w'=>WrA w w' x L n p.P:=by
 have b1:=ze w (.cells (PC p) 26);have x1:=zm w p;obtain ⟨wk,hwk⟩:∃ w1,w.alloc (.cells (PC p) 26)=w1:=⟨_,rfl⟩;obtain ⟨G,hG⟩:∃ g1,w.heap.size=g1:=⟨_,rfl⟩;rw [hwk] at b1 x1;rw [hG] at x1;have HBK:=hide b1;have HX:=hide x1;have HS:=hide (hS.below b1);have HP:=hide (hP.below b1);have HLn:Hid (L.length=n):=hS.src.len;have HN:=hide hn;clear b1 x1 hS hP;go_enter Tryz.func71,Tryz.ntmps71;go_wp2_with fail;clear hwk hG;refine (zbY ao n ca L _ HS.out.src).mono ?_;rintro x w1 ⟨z,rfl,hz,b1⟩;have HB1:=hide b1
 have lp:=zj (HX.out.below b1).at
 clear b1;rcases hz with ⟨rfl,hO⟩ | ⟨rfl,hO⟩;rotate_left
 ·have HE:Hid (WrA w w1 (.returned (.tuple #[.slice none 0 0,.int .i64 1])) L n p.P):=.inr ⟨fun h=>hO h.1,rfl,HBK.out.trans (HB1.out.mono HBK.out.size)⟩;clear hO lp;go_wp2_with fail;go_ret2;exact HE.out
 have HO:=hide hO;clear hO;go_wp2_with fail;clear lp;refine (xk p _ (HP.out.below HB1.out)).mono ?_;rintro x w0 ⟨b,rfl,hb,b2⟩;have HB0:=wTr HB1 b2;clear b2
 cases b with
 | false =>
  have HE:Hid (WrA w w0 (.returned (.tuple #[.slice none 0 0,.int .i64 1])) L n p.P):=.inr ⟨fun h=>(by have:=hb.2 h.2;cases this),rfl,HBK.out.trans (HB0.out.mono HBK.out.size)⟩;clear hb;go_wp2_with fail;go_ret2;exact HE.out
 | true =>
  have HF:=hide (hb.1 rfl);have HOL:=hide (xH.1 (by rw [HLn.out];exact HO.out):(∀ r∈L,RecOk r)/\Srt ck (plR L));clear hb;go_wp2_with fail;go_loopw [6,7] (fun v i wr=>∃ (k:Nat) (h:Hs) (D:List Rc),k <= n/\v = .slice h.o h.n h.c/\i = .int .i64 (k:Int)/\Hid (OwnRc w0.heap.size w0 wr h D/\WtI L p.P k D/\h.n <= k)) (fun _ i _=>n - (intOf i).toNat)
  case atStart=>exact ⟨0,hs0,[],Nat.zero_le _,rfl,rfl,OwnRc.nil w0,WtI.start L _,Nat.le_refl _⟩
  case round =>
   obtain ⟨k,h,D,hk,rfl,rfl,HI⟩:=hrel
   rename World=>wr
   have HBr:Hid (Below wk.heap.size wk wr):=HB0.out.trans (HI.out.1.below.mono HB0.out.size);have hnb:=HN.out;by_cases hlt:k < n
   ·have hlti:(k:Int) < (n:Int):=by omega
    obtain ⟨ad,hao,A0⟩:=(HS.out.below HBr.out).src.at k hlt;obtain ⟨r,Hr⟩:∃ r,Hid (L.getD k rc0=r):=⟨_,rfl⟩
    obtain ⟨b1,o1,rfl⟩:∃ b1 o1,ad=⟨b1,o1,none⟩:=by
     have h:=(HS.out.below HBr.out).src;rw [hao] at h;exact h.spot (by omega)
    have HRo:Hid (RecOk r):=by
     have h:=HOL.out.1 _ (jm (L:=L) (j:=k) (by rw [HLn.out];exact hlt));rw [Hr.out] at h;exact h
    subst hao;have Hlt:=hide hlt
    have HQ:Hid (∀ W,Below wk.heap.size wk W -> RcOk W r/\ReAt W ⟨b1,o1+k * 3,none⟩ (mkR r)):=fun W hW=>by
     have h1:=(HS.out.below hW).src.okAt k Hlt.out;have h2:=(HS.out.below hW).src.at_ _ rfl k Hlt.out;rw [Hr.out] at h1 h2;rw [Addr.add_lit] at h2;exact ⟨h1,h2⟩
    have HSt:Hid (∀ W,Below wk.heap.size wk W -> (ldP (.pointer (some ⟨b1,o1+k * 3+1,none⟩))).run Tryz.prog W = .ok (PV r.p) W/\(ldP (.pointer (some ⟨G,0,none⟩))).run Tryz.prog W = .ok (PV p) W):=fun W hW=>⟨zj (HQ.out W hW).2.flat.2,zj (HX.out.below hW).at⟩;have HBd:=hide (HBr.out.trans ((zf wr).mono HBr.out.size));clear A0 hlt hk;go_upto_region 7 with fail;refine wp_region_held_drew (S:=fun W=>(ldP (.pointer (some ⟨b1,o1+k * 3+1,none⟩))).run Tryz.prog W = .ok (PV r.p) W/\(ldP (.pointer (some ⟨G,0,none⟩))).run Tryz.prog W = .ok (PV p) W) (by kernel_rfl) (HSt.out _ HBd.out) (fun hHeld=>?_);refine wU 0 ?_;refine wU 1 ?_;refine wU 2 ?_;refine wU 3 ?_;refine wU 4 ?_;refine wU 5 ?_;refine wpAnyH_ready (rs:=[6]) (by kernel_rfl) (by simp) (.cons rfl (fun K hK=>?_) .nil);go_simp;go_wp2_with fail;refine (kJ r.p p _ (HQ.out _ HBd.out).1.1 (HP.out.below HBd.out)).mono ?_
    rintro x w8 ⟨b,rfl,hb,b8⟩;have Hb:Hid (b=true↔wiP r.p.P p.P):=hb;have HB8:=wTr HBd b8;have b8:=hide b8;refine hK.out _ _ (HSt.out _ HB8.out) (fun hHeld=>?_);clear hK K hb HB8;refine wU 7 ?_;refine wpAnyH_done (by kernel_rfl) ?_ _;clear hHeld;have HO8:=hide (HI.out.1.later ((zf wr).trans b8.out))
    cases b with
    | true =>
     have HN2:Hid (OwnRc w0.heap.size w0 w8 h D/\WtI L p.P (k+1) D/\h.n <= k+1):=⟨HO8.out,HI.out.2.1.skip (by rw [HLn.out];exact Hlt.out) Hr.out (Hb.out.1 rfl),by have:=HI.out.2.2;omega⟩;go_wp2_with fail;go_roundw
     case rel=>exact ⟨k+1,h,D,Hlt.out,rfl,by simp,HN2.out⟩
     case measure=>simp [intOf];have:=Hlt.out;omega
    | false =>
     have Hno:Hid (¬ wiP r.p.P p.P):=fun h=>by have:=Hb.out.2 h;cases this
     have HB8:=wTr HBd b8.out;have la:=zz (HQ.out _ HB8.out).2;obtain ⟨gb,cb2,wb,hab,Ob,hkb,hgb,hsb⟩:=HO8.out.appAt r (HQ.out _ HB8.out).1 (zca HO8.out ((HQ.out w0 HB0.out).1.1)) (by have:=HI.out.2.2;have:=HN.out;have:=Hlt.out;omega);have HAb:Hid ((Builtin.append_ #[27,27] 27 #[.slice h.o h.n h.c,.slice (some ⟨w8.heap.size,0,none⟩) 1 1]).run Tryz.prog (w8.alloc (.cells #[.string r.s,.slice r.p.vo r.p.vn r.p.vc,.slice r.p.co r.p.cn r.p.cc] 78)) = .ok (.slice (some ⟨gb,0,none⟩) (h.n+1) cb2) wb):=hab;have HN2:Hid (OwnRc w0.heap.size w0 wb ⟨some ⟨gb,0,none⟩,h.n+1,cb2⟩ (D++[r])/\WtI L p.P (k+1) (D++[r])/\h.n+1 <= k+1):=⟨Ob,HI.out.2.1.add (by rw [HLn.out];exact Hlt.out) Hr.out Hno.out HRo.out rfl,by have:=HI.out.2.2;omega⟩;clear hab Ob hkb hgb hsb;go_wp2_with (at_builtin;refine xK rfl (.tmp 30) (.tmp 35) rfl rfl rfl HAb.out ?_)
     clear la;go_roundw
     case rel=>exact ⟨k+1,⟨some ⟨gb,0,none⟩,h.n+1,cb2⟩,D++[r],Hlt.out,rfl,by simp,HN2.out⟩
     case measure=>simp [intOf];have:=Hlt.out;omega
   ·have hlti:¬ (k:Int) < (n:Int):=by omega
    have HE:Hid (WrA w wr (.returned (.tuple #[.slice h.o h.n h.c,.int .i64 0])) L n p.P):=by
     obtain ⟨q1,q2,q3⟩:=HI.out;rw [show k=L.length by rw [HLn.out];omega] at q2;obtain ⟨r1,r2,r3⟩:=zbc q1 (by omega);have hb:=HBK.out.trans (HB0.out.mono HBK.out.size);exact .inl ⟨HO.out,HF.out,h,D,rfl,r1,fun ad e=>Nat.le_trans hb.size (r2 ad e),by omega,hb.trans (r3.mono hb.size),q2.done⟩
    clear HI;go_wp2_with fail;go_ret2;exact HE.out
end
section
open Go.RowKit
theorem zcc {D:List Rn} {p q:Rn -> Bool} {a:Rn} (ha:a∈D) (hp:p a=true) (hq:q a=false) (hqp:∀ x,q x=true -> p x=true):D.countP q+1 <= D.countP p:=by
 induction D with
 | nil=>cases ha
 | cons x D ih =>
  have hm:D.countP q <= D.countP p:=List.countP_mono_left (fun y _ h=>hqp y h);rcases List.mem_cons.1 ha with rfl | h
  ·rw [List.countP_cons_of_pos hp,List.countP_cons_of_neg (by rw [hq];decide)];omega
  ·have h1:=ih h
   cases hx:q x
   ·rw [List.countP_cons_of_neg (by rw [hx];decide)]
    have h2:D.countP p <= (x :: D).countP p:=by rw [List.countP_cons];omega
    omega
   ·rw [List.countP_cons_of_pos hx,List.countP_cons_of_pos (hqp x hx)];omega
theorem yU (D:List Rn) (r:Int):∀ (X:List Rn) (l:Int),1 <= l -> form l X -> (∀ n,mem X n -> (⟨r,n⟩:Rn)∈D) -> X.length <= D.countP (fun d=>decide (d.lo=r) && decide (l <= d.hi))
 | [],_,_,_,_=>Nat.zero_le _
 | x :: X,l,hl,hf,hD=>by
  have h1:=hf.1;have h2:=hf.2.1;have h3:=yU D r X (x.hi+2) (by omega) hf.2.2.2 (fun n hn=>hD n ((mem_cons _ _ _).2 (.inr hn)));have h4:(⟨r,x.lo⟩:Rn)∈D:=hD x.lo ((mem_cons _ _ _).2 (.inl ⟨by omega,by have:=hf.2.2.1;omega,Int.le_refl _,h2⟩));have h5:=zcc (p:=fun d=>decide (d.lo=r) && decide (l <= d.hi)) (q:=fun d=>decide (d.lo=r) && decide (x.hi+2 <= d.hi)) h4 (by simp;omega) (by simp;omega) (fun y hy=>by simp at hy ⊢;omega);simp only [List.length_cons];omega
theorem yw {N:Nat -> List Rn} (D:List Rn):∀ k:Nat,(∀ r,r < k -> form 1 (N r)/\∀ n,mem (N r) n -> (⟨(r:Int),n⟩:Rn)∈D) -> (cloudN N k).length <= D.countP (fun d=>decide (0 <= d.lo) && decide (d.lo < (k:Int)))
 | 0,_=>Nat.zero_le _
 | k+1,h=>by
  have h1:=yw D k (fun r hr=>h r (by omega));have h2:=vF (N k);have h3:=yU D k (N k) 1 (Int.le_refl _) (h k (by omega)).1 (h k (by omega)).2
  have h4:D.countP (fun d=>decide (0 <= d.lo) && decide (d.lo < (k:Int)))+D.countP (fun d=>decide (d.lo=(k:Int)) && decide (1 <= d.hi)) <= D.countP (fun d=>decide (0 <= d.lo) && decide (d.lo < ((k+1:Nat):Int))):=by
   clear h h1 h2 h3
   induction D with
   | nil=>simp
   | cons x D ih =>
    rw [List.countP_cons,List.countP_cons,List.countP_cons]
    have h5:(if (decide (0 <= x.lo) && decide (x.lo < (k:Int)))=true then 1 else 0)+(if (decide (x.lo=(k:Int)) && decide (1 <= x.hi))=true then 1 else 0) <= (if (decide (0 <= x.lo) && decide (x.lo < ((k+1:Nat):Int)))=true then 1 else 0):=by
     simp only [Bool.and_eq_true,decide_eq_true_eq]
     split <;> split <;> split <;> omega
    omega
  rw [cloudN,List.length_append,j5];omega
theorem zch {G:Nat -> List Rn} {P:Pst} (h:CanonOf G P) (D:List Rn) (hD:∀ r:Nat,r < 16 -> ∀ n,mem (G r) n -> (⟨(r:Int),n⟩:Rn)∈D):P.cloud.length <= D.length:=by
 obtain ⟨N,hN,rfl⟩:=h;exact Nat.le_trans (yw D 16 (fun r hr=>⟨(hN r hr).1,fun n hn=>hD r hr n (((hN r hr).2 n).1 hn)⟩)) List.countP_le_length
end
section
open Go.RowKit
def freeB (R:List Rc) (e:K.En):Bool := !R.any (fun r=>covB r e)
theorem zgI (R:List Rc) (e:K.En):freeB R e=true↔R.countP (fun r=>covB r e)=0:=by
 unfold freeB;rw [Bool.not_eq_true',List.any_eq_false,List.countP_eq_zero]
def ApA (w w':World) (x:Ending) (L:List K.En) (R:List Rc) (n:Nat):Prop:=(K.chk L=0/\OkR R n/\K.GivesEE w w' x (L.filter (freeB R)) 0)∨(¬ (K.chk L=0/\OkR R n)/\K.GivesEE w w' x [] 1)
end
end Go.Proofs.YtjffpimfngdggaaGreat
namespace Go.Proofs
open Go.Shelf
def Tryz.keysM_ren:Go.Shelf.Ren:=⟨fun | 7=>147 | 10=>188 | n=>n,fun | 23=>187 | 26=>9 | 3=>151 | 28=>113 | 0=>0 | 27=>112 | 33=>95 | 4=>4 | n=>n,fun | n=>n⟩
theorem Tryz.keysM:Go.Proofs.SlLaysZ.n7 Tryz.prog Tryz.keysM_ren:={
 mixed:=by kernel_rfl
 f7:=⟨Tryz.f147.name,by decide,Tryz.func147.trans (congrArg some (by kernel_rfl))⟩
 f10:=⟨Tryz.f188.name,by decide,Tryz.func188.trans (congrArg some (by kernel_rfl))⟩
 t0:=Tryz.underlying0
 a0:=Tryz.isAgg0
 z0:=Tryz.sizeOf0
 v0:=Tryz.zeroValue0
 t4:=Tryz.underlying4
 a4:=Tryz.isAgg4
 z4:=Tryz.sizeOf4
 v4:=Tryz.zeroValue4
 t23:=Tryz.underlying187
 a23:=Tryz.isAgg187
 z23:=Tryz.sizeOf187
 v23:=Tryz.zeroValue187
 t26:=Tryz.underlying9
 a26:=Tryz.isAgg9
 z26:=Tryz.sizeOf9
 v26:=Tryz.zeroValue9
 t27:=Tryz.underlying112
 a27:=Tryz.isAgg112
 z27:=Tryz.sizeOf112
 v27:=Tryz.zeroValue112
 t28:=Tryz.underlying113
 a28:=Tryz.isAgg113
 z28:=Tryz.sizeOf113
 v28:=Tryz.zeroValue113
 t33:=Tryz.underlying95
 a33:=Tryz.isAgg95
 z33:=Tryz.sizeOf95
 v33:=Tryz.zeroValue95 }
def Tryz.sortedM_ren:Go.Shelf.Ren:=⟨fun | 6=>59 | 8=>105 | 9=>106 | 11=>158 | 13=>160 | 12=>159 | 23=>201 | 24=>202 | 14=>192 | 15=>193 | 16=>194 | 17=>195 | 18=>196 | 19=>197 | 20=>198 | 21=>199 | 22=>200 | 25=>227 | 26=>228 | 27=>229 | 28=>230 | 29=>231 | 30=>232 | 31=>248 | n=>n,fun | 26=>9 | 28=>113 | 24=>110 | 0=>0 | 3=>3 | 37=>201 | 48=>230 | 50=>232 | 4=>4 | 40=>223 | 39=>222 | 45=>174 | 5=>5 | 9=>9 | 51=>247 | 55=>251 | 57=>263 | 58=>132 | 33=>95 | n=>n,fun | n=>n⟩
theorem Tryz.sortedM:Go.Proofs.SlLaysZ.n6 Tryz.prog Tryz.sortedM_ren:={
 mixed:=by kernel_rfl
 f6:=⟨Tryz.f59.name,by decide,Tryz.func59.trans (congrArg some (by kernel_rfl))⟩
 f8:=⟨Tryz.f105.name,by decide,Tryz.func105.trans (congrArg some (by kernel_rfl))⟩
 f11:=⟨Tryz.f158.name,by decide,Tryz.func158.trans (congrArg some (by kernel_rfl))⟩
 t0:=Tryz.underlying0
 a0:=Tryz.isAgg0
 z0:=Tryz.sizeOf0
 v0:=Tryz.zeroValue0
 t24:=Tryz.underlying110
 a24:=Tryz.isAgg110
 z24:=Tryz.sizeOf110
 v24:=Tryz.zeroValue110
 t26:=Tryz.underlying9
 a26:=Tryz.isAgg9
 z26:=Tryz.sizeOf9
 v26:=Tryz.zeroValue9
 t28:=Tryz.underlying113
 a28:=Tryz.isAgg113
 z28:=Tryz.sizeOf113
 v28:=Tryz.zeroValue113
 i26:=by kernel_rfl }
def Tryz.sortM_ren:Go.Shelf.Ren:=⟨fun | 6=>106 | 8=>160 | 9=>159 | 19=>201 | 20=>202 | 21=>192 | 22=>193 | 23=>194 | 24=>195 | 25=>196 | 26=>197 | 27=>198 | 28=>199 | 29=>200 | 36=>227 | 31=>228 | 32=>229 | 37=>230 | 38=>231 | 39=>232 | 41=>248 | n=>n,fun | 27=>110 | 29=>9 | 3=>3 | 32=>201 | 26=>110 | 0=>0 | 44=>230 | 46=>232 | 4=>4 | 36=>223 | 35=>222 | 41=>174 | 5=>5 | 9=>9 | 53=>247 | 57=>251 | 63=>263 | 64=>132 | n=>n,fun | n=>n⟩
theorem Tryz.sortM:Go.Proofs.SlLaysM.n6 Tryz.prog Tryz.sortM_ren:={
 mixed:=by kernel_rfl
 f6:=⟨Tryz.f106.name,by decide,Tryz.func106.trans (congrArg some (by kernel_rfl))⟩
 f8:=Tryz.func160.trans (congrArg some (by kernel_rfl))
 f9:=⟨Tryz.f159.name,by decide,Tryz.func159.trans (congrArg some (by kernel_rfl))⟩
 f19:=Tryz.func201.trans (congrArg some (by kernel_rfl))
 f20:=Tryz.func202.trans (congrArg some (by kernel_rfl))
 f21:=⟨Tryz.f192.name,by decide,Tryz.func192.trans (congrArg some (by kernel_rfl))⟩
 f22:=⟨Tryz.f193.name,by decide,Tryz.func193.trans (congrArg some (by kernel_rfl))⟩
 f23:=⟨Tryz.f194.name,by decide,Tryz.func194.trans (congrArg some (by kernel_rfl))⟩
 f24:=⟨Tryz.f195.name,by decide,Tryz.func195.trans (congrArg some (by kernel_rfl))⟩
 f25:=⟨Tryz.f196.name,by decide,Tryz.func196.trans (congrArg some (by kernel_rfl))⟩
 f26:=⟨Tryz.f197.name,by decide,Tryz.func197.trans (congrArg some (by kernel_rfl))⟩
 f27:=⟨Tryz.f198.name,by decide,Tryz.func198.trans (congrArg some (by kernel_rfl))⟩
 f28:=⟨Tryz.f199.name,by decide,Tryz.func199.trans (congrArg some (by kernel_rfl))⟩
 f29:=⟨Tryz.f200.name,by decide,Tryz.func200.trans (congrArg some (by kernel_rfl))⟩
 f31:=Tryz.func228.trans (congrArg some (by kernel_rfl))
 f32:=Tryz.func229.trans (congrArg some (by kernel_rfl))
 f36:=⟨Tryz.f227.name,by decide,Tryz.func227.trans (congrArg some (by kernel_rfl))⟩
 f37:=⟨Tryz.f230.name,by decide,Tryz.func230.trans (congrArg some (by kernel_rfl))⟩
 f38:=⟨Tryz.f231.name,by decide,Tryz.func231.trans (congrArg some (by kernel_rfl))⟩
 f39:=⟨Tryz.f232.name,by decide,Tryz.func232.trans (congrArg some (by kernel_rfl))⟩
 f41:=⟨Tryz.f248.name,by decide,Tryz.func248.trans (congrArg some (by kernel_rfl))⟩
 t0:=Tryz.underlying0
 a0:=Tryz.isAgg0
 z0:=Tryz.sizeOf0
 v0:=Tryz.zeroValue0
 t3:=Tryz.underlying3
 a3:=Tryz.isAgg3
 z3:=Tryz.sizeOf3
 v3:=Tryz.zeroValue3
 t4:=Tryz.underlying4
 a4:=Tryz.isAgg4
 z4:=Tryz.sizeOf4
 v4:=Tryz.zeroValue4
 t5:=Tryz.underlying5
 a5:=Tryz.isAgg5
 z5:=Tryz.sizeOf5
 v5:=Tryz.zeroValue5
 t9:=Tryz.underlying9
 a9:=Tryz.isAgg9
 z9:=Tryz.sizeOf9
 v9:=Tryz.zeroValue9
 t26:=Tryz.underlying110
 a26:=Tryz.isAgg110
 z26:=Tryz.sizeOf110
 v26:=Tryz.zeroValue110
 t27:=Tryz.underlying110
 a27:=Tryz.isAgg110
 z27:=Tryz.sizeOf110
 v27:=Tryz.zeroValue110
 t29:=Tryz.underlying9
 a29:=Tryz.isAgg9
 z29:=Tryz.sizeOf9
 v29:=Tryz.zeroValue9
 t32:=Tryz.underlying201
 a32:=Tryz.isAgg201
 z32:=Tryz.sizeOf201
 v32:=Tryz.zeroValue201
 t35:=Tryz.underlying222
 a35:=Tryz.isAgg222
 z35:=Tryz.sizeOf222
 v35:=Tryz.zeroValue222
 t36:=Tryz.underlying223
 a36:=Tryz.isAgg223
 z36:=Tryz.sizeOf223
 v36:=Tryz.zeroValue223
 t41:=Tryz.underlying174
 a41:=Tryz.isAgg174
 z41:=Tryz.sizeOf174
 v41:=Tryz.zeroValue174
 t44:=Tryz.underlying230
 a44:=Tryz.isAgg230
 z44:=Tryz.sizeOf230
 v44:=Tryz.zeroValue230
 t46:=Tryz.underlying232
 a46:=Tryz.isAgg232
 z46:=Tryz.sizeOf232
 v46:=Tryz.zeroValue232
 t53:=Tryz.underlying247
 a53:=Tryz.isAgg247
 z53:=Tryz.sizeOf247
 v53:=Tryz.zeroValue247
 t57:=Tryz.underlying251
 a57:=Tryz.isAgg251
 z57:=Tryz.sizeOf251
 v57:=Tryz.zeroValue251
 t63:=Tryz.underlying263
 a63:=Tryz.isAgg263
 z63:=Tryz.sizeOf263
 v63:=Tryz.zeroValue263
 t64:=Tryz.underlying132
 a64:=Tryz.isAgg132
 z64:=Tryz.sizeOf132
 v64:=Tryz.zeroValue132 }
end Go.Proofs
namespace Go.Proofs.YtjffpimfngdggaaGreat
open Go.RowKit Go.Maps Go.Sort Go.Shelf

theorem zf0 (m:Nat):AnyZ.SortsIn Tryz.prog Tryz.sortedM_ren Fence.wide m:=
 ⟨fun blk off cap ss W hH hblk hsz=>callsIn_wide.2 (AnyM.slices_Sort_string Tryz.sortM blk off cap ss W hH hblk hsz),
 fun p cap W=>callsIn_wide.2 (AnyM.slices_Sort_string_none Tryz.sortM p cap W)⟩
theorem zgu (mb:Option Nat) (W:World):Calls Tryz.prog 147 #[.map mb] W fun e w'=>e = .returned (.func (.func 188) #[] #[.pointer (some ⟨W.heap.size,0,none⟩)])/\w'=W.alloc (.cells #[.map mb] 187):=
 (callsIn_wide (n:=5)).1 (AnyZ.keys_in Tryz.keysM Fence.wide 5 trivial rfl mb W)
def GivesSs (w w':World) (e:Ending) (T:List (List UInt8)):Prop:=∃ v,e = .returned v/\w'.ownsRow w.heap.size 9 1 v T.length (T.map encStr)/\Below w.heap.size w w'
theorem yG {H:Type} (b nn:Nat) (D0:DataW H) (R:Value -> Option (DataW H × List MemPlace)) (w:World) (hown:w.ownsMap Tryz.prog 9 R b nn D0) (hmax:Maps.size D0 <= maxLen) (hbytes:Maps.size D0 * 16 <= 140737488355328) :
  Calls Tryz.prog 59 #[.func (.func 188) #[] #[.pointer (some ⟨w.heap.size,0,none⟩)]] (w.alloc (.cells #[.map (some b)] 187)) fun e w'=>∃ ss:List (List UInt8),ss.Perm (strKeys D0)/\GivesSs (w.alloc (.cells #[.map (some b)] 187)) w' e (ss.mergeSort leB):=by
 have hbl:=hown.lt
 have hseq:SeqGives Fence.wide 2 Tryz.prog 188 #[.pointer (some ⟨w.heap.size,0,none⟩)] encStr (fun ss=>ss.Perm (strKeys D0)) (Maps.size D0) (w.alloc (.cells #[.map (some b)] 187)):=
  AnyZ.keys_gives (ρ := Tryz.keysM_ren) { Tryz.keysM with } Fence.wide _ trivial rfl (by omega) w.heap.size b nn D0 _ (by simp) (by simp) (by
   obtain ⟨es,clock,hb,Ft,hs,hD⟩:=hown
   exact ⟨es,clock,(Below.heap_alloc _ _ b hbl).trans hb,Ft,hs,hD⟩)
 have h:=AnyZ.sorted_in Tryz.sortedM Fence.wide 5 trivial trivial trivial trivial rfl (by omega) (zf0 _) (enters_of Tryz.func106 (by kernel_rfl) rfl) 188 #[.pointer (some ⟨w.heap.size,0,none⟩)] trivial (enters_of Tryz.func188 (by kernel_rfl) rfl) _ _ hmax hbytes _ hseq;refine ((callsIn_wide (n:=5)).1 h).mono ?_;rintro e w' ⟨v,ss,rfl,hS,hrow,_,hb⟩;refine ⟨ss,hS,v,rfl,?_,hb⟩;have e1:(ss.mergeSort leB).length=ss.length:=(List.mergeSort_perm ss leB).length_eq;rw [e1];exact hrow
end Go.Proofs.YtjffpimfngdggaaGreat
