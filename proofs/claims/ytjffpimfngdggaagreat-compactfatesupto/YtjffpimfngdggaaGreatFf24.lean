import Derived.Test.YtjffpimfngdggaaGreatFf23
import Derived.Deep.RegionHeldLaw
import Derived.Test.YtjffpimfngdggaaGreatFf20
import Derived.Shelf.SlIter.Nil
import Derived.Shelf.SortM.Plain
import Derived.Shelf.SortM.SortNone
set_option maxRecDepth 100000
set_option maxHeartbeats 6400000
namespace Go.Proofs.YtjffpimfngdggaaGreat
section
open Go.RowKit
theorem tmq {a b c:World} (h:Below a.heap.size a b) (k:Below b.heap.size b c):Below a.heap.size a c:=h.trans (k.mono h.size)
attribute [local go_sem ↓] kW kH
attribute [local go_sem] xH qY
def pi (w w':World) (e:Ending) (k:Int) (N1 N2:Nat -> List Rn):Prop:=∃ (T:Nat -> Si) (N:Nat -> List Rn),e = .returned (JAv T)/\(∀ r,r < 16 -> V.Src w' (T r).ao (T r).n (T r).cap (tn (N r))/\(∀ ad,(T r).ao=some ad -> w.heap.size <= ad.block)/\iF k (N1 r) (N2 r) (N r))/\Below w.heap.size w w'
structure CbJ (w W:World) (k:Int) (T1 T2:Nat -> Si) (N1 N2:Nat -> List Rn) (T:Nat -> Si) (N:Nat -> List Rn) (j:Nat):Prop where
 a:aS W w.heap.size 141 T1
 b:aS W (w.heap.size+1) 141 T2
 z:aS W (w.heap.size+1+1) 141 (fun _=>si0)
 s:aS W (w.heap.size+1+1+1) 141 T
 bl:Below w.heap.size w W
 t:∀ r,r < j -> V.Src W (T r).ao (T r).n (T r).cap (tn (N r))/\(∀ ad,(T r).ao=some ad -> w.heap.size+1+1+1 < ad.block)/\iF k (N1 r) (N2 r) (N r)
theorem CbJ.start (w:World) (k:Int) (T1 T2:Nat -> Si) (N1 N2:Nat -> List Rn):CbJ w ((((w.alloc (.cells (JA T1) 141)).alloc (.cells (JA T2) 141)).alloc (.cells (JA fun _=>si0) 141)).alloc (.cells (JA fun _=>si0) 141)) k T1 T2 N1 N2 (fun _=>si0) (fun _=>[]) 0:=by
 have b1:=ze w (.cells (JA T1) 141);have b2:=ze (w.alloc (.cells (JA T1) 141)) (.cells (JA T2) 141);have b3:=ze ((w.alloc (.cells (JA T1) 141)).alloc (.cells (JA T2) 141)) (.cells (JA fun _=>si0) 141);have b4:=ze (((w.alloc (.cells (JA T1) 141)).alloc (.cells (JA T2) 141)).alloc (.cells (JA fun _=>si0) 141)) (.cells (JA fun _=>si0) 141);have i1:=qG w 141 T1;have i2:=qG (w.alloc (.cells (JA T1) 141)) 141 T2;have i3:=qG ((w.alloc (.cells (JA T1) 141)).alloc (.cells (JA T2) 141)) 141 (fun _=>si0);have i4:=qG (((w.alloc (.cells (JA T1) 141)).alloc (.cells (JA T2) 141)).alloc (.cells (JA fun _=>si0) 141)) 141 (fun _=>si0);have j1:=((i1.below b2).below b3).below b4;have j2:=(i2.below b3).below b4;have j3:=i3.below b4;simp only [World.size_alloc] at j1 j2 j3 i4;exact ⟨j1,j2,j3,i4,b1.trans ((b2.mono b1.size).trans ((b3.mono (tmq b1 b2).size).trans (b4.mono (b1.trans ((b2.mono b1.size).trans (b3.mono (tmq b1 b2).size))).size))),fun r h=>absurd h (by omega)⟩
theorem CbJ.on {w W W':World} {k:Int} {T1 T2:Nat -> Si} {N1 N2:Nat -> List Rn} {T:Nat -> Si} {N:Nat -> List Rn} {j:Nat} (I:CbJ w W k T1 T2 N1 N2 T N j) (hb:Below W.heap.size W W'):CbJ w W' k T1 T2 N1 N2 T N j:=
 ⟨I.a.below hb,I.b.below hb,I.z.below hb,I.s.below hb,I.bl.trans (hb.mono I.bl.size),fun r hr=>⟨(I.t r hr).1.below hb,(I.t r hr).2⟩⟩
theorem CbJ.push {w W W':World} {k:Int} {T1 T2:Nat -> Si} {N1 N2:Nat -> List Rn} {T:Nat -> Si} {N:Nat -> List Rn} {j:Nat} (I:CbJ w W k T1 T2 N1 N2 T N j) (hb:Below W.heap.size W W') {ao:Option Addr} {n c:Nat} {X:List Rn} (S:V.Src W' ao n c (tn X)) (hf:∀ ad,ao=some ad -> W.heap.size <= ad.block) (hN:iF k (N1 j) (N2 j) X) :
  CbJ w (W'.setCell ⟨w.heap.size+1+1+1,j,none⟩ (.slice ao n c)) k T1 T2 N1 N2 (fv T j ⟨ao,n,c,[]⟩) (fun r=>if r=j then X else N r) (j+1):=by
 have hl:=I.s.lt;have J:=I.on hb;have hs:∀ {q:Nat},q≠w.heap.size+1+1+1 -> (W'.setCell ⟨w.heap.size+1+1+1,j,none⟩ (.slice ao n c)).heap[q]? = W'.heap[q]?:=fun h=>zw h;refine ⟨(hs (by omega)).trans J.a,(hs (by omega)).trans J.b,(hs (by omega)).trans J.z,(I.s.below hb).set j ⟨ao,n,c,[]⟩ _ rfl,V.qd J.bl (by simp;omega),fun r hr=>?_⟩;by_cases h:r=j
 ·subst h;rw [qZ,if_pos rfl];exact ⟨kr S (fun ad h=>hs (by have:=hf ad h;omega)),fun ad h=>by have:=hf ad h;omega,hN⟩
 ·rw [qj _ _ _ _ h,if_neg h];obtain ⟨h1,h2,h3⟩:=I.t r (by omega);exact ⟨kr (h1.below hb) (fun ad h=>hs (by have:=h2 ad h;omega)),h2,h3⟩
theorem zbK (T1 T2:Nat -> Si) (N1 N2:Nat -> List Rn) (k:Int) (w:World) (hS1:∀ r,r < 16 -> V.Src w (T1 r).ao (T1 r).n (T1 r).cap (tn (N1 r))/\form 1 (N1 r)) (hS2:∀ r,r < 16 -> V.Src w (T2 r).ao (T2 r).n (T2 r).cap (tn (N2 r))/\form 1 (N2 r)) (hk:k=1∨k=2) :
  Calls Tryz.prog 120 #[JAv T1,JAv T2,.int .i64 k] w fun e w'=>pi w w' e k N1 N2:=by
 have dg:=hide hS1;have dZ:=hide hS2;have HK:=hide hk;clear hS1 hS2 hk;have ui:=hide (CbJ.start w k T1 T2 N1 N2);go_enter Tryz.func120,Tryz.ntmps120;go_wp2_with fail;go_loopw [8] (fun i wr=>∃ (j:Nat) (T:Nat -> Si) (N:Nat -> List Rn),j <= 16/\i = .int .i64 j/\Hid (CbJ w wr k T1 T2 N1 N2 T N j)) (fun i _=>16 - (intOf i).toNat)
 case atStart=>exact ⟨0,_,_,Nat.zero_le _,rfl,ui⟩
 case round =>
  obtain ⟨y,T,N,tX,rfl,HJ⟩:=hrel
  rename World=>w6
  clear ui;by_cases hy:y < 16
  ·have pL:=hide HJ.s.lt;have sA:=(dg.out y hy).1.below HJ.bl;have sB:=(dZ.out y hy).1.below HJ.bl;have NB:=hide (dg.out y hy).2;have MU:=hide (dZ.out y hy).2;have c1:=HJ.a.cell y hy;have c2:=HJ.b.cell y hy;obtain ⟨sa,n,ca,sb,m,cb,hf⟩:∃ sa n ca sb m cb,(T1 y).ao=sa/\(T1 y).n=n/\(T1 y).cap=ca/\(T2 y).ao=sb/\(T2 y).n=m/\(T2 y).cap=cb:=⟨_,_,_,_,_,_,rfl,rfl,rfl,rfl,rfl,rfl⟩;rw [hf.1,hf.2.1,hf.2.2.1] at sA c1;rw [hf.2.2.2.1,hf.2.2.2.2.1,hf.2.2.2.2.2] at sB c2;have iu:=hide (sA.below (zf w6));have gC:=hide (sB.below (zf w6));have cG:Hid (∀ W':World,(∀ q,q < w.heap.size+1+1+1 -> W'.heap[q]? = w6.heap[q]?) -> W'.cell? ⟨w.heap.size,y,none⟩=some (.slice sa n ca)/\W'.cell? ⟨w.heap.size+1,y,none⟩=some (.slice sb m cb)):=fun W' h=>⟨(World.cell?_of_block (h _ (by show w.heap.size < _;omega))).trans c1,(World.cell?_of_block (h _ (by show w.heap.size+1 < _;omega))).trans c2⟩
   clear sA sB hf
   have y0:(0:Int) <= (y:Int):=by omega
   have y1:(y:Int) < 16:=by omega
   go_wp2_with fail;refine wp_region_held_drew (S:=fun W=>W.cell? ⟨w.heap.size,y,none⟩=some (.slice sa n ca)/\W.cell? ⟨w.heap.size+1,y,none⟩=some (.slice sb m cb)) (by kernel_rfl) (cG.out _ (fun q _=>rfl)) (fun hHeld=>?_);refine wU 0 ?_;refine wU 1 ?_;refine wU 2 ?_;refine wU 3 ?_;refine wU 4 ?_;refine wU 5 ?_;refine wU 6 ?_;refine wU 7 ?_;refine wU 8 ?_;refine wU 9 ?_;refine wU 11 ?_;refine wR 10 fun K hK=>?_;go_simp;go_wp2_with fail;have DD:=hide (HJ.on (zf w6));refine (zcx _ _ _ _ _ _ _ _ _ _ iu.out gC.out NB.out MU.out HK).mono ?_;rintro e w8 ⟨t9,tt,tc,TX,rfl,S8,f8,b8,N8⟩;have HP:=hide (DD.push b8 S8 f8 N8);have gF:Hid (∀ q,q < w6.heap.size -> w8.heap[q]? = w6.heap[q]?):=fun q hq=>b8.block q hq;have tM:=(DD.s.below b8)
   have e2:=tM.frozen y;have e1:=tM.cell y hy;have gO:Hid (∀ q,q < w.heap.size+1+1+1 -> (w8.setCell ⟨w.heap.size+1+1+1,y,none⟩ (.slice t9 tt tc)).heap[q]? = w6.heap[q]?):=fun q hq=>(zw (by omega)).trans (gF.out q (by have:=pL.out;omega));refine hK.out _ _ (cG.out _ (fun q hq=>gF.out q (by have:=pL.out;omega))) (fun hHeld=>?_);clear hK K;refine wU 12 ?_;refine wR 13 fun K hK=>?_;go_simp;refine hK.out _ _ (cG.out _ gO) (fun hHeld=>?_);clear hK K;refine wD ?_ _;clear hHeld S8 f8 b8 N8 gF gO tM e1 e2;go_wp2_with fail;go_roundw
   case rel=>exact ⟨y+1,_,_,by omega,by go_num,HP⟩
   case measure=>simp [intOf];omega
  ·obtain rfl:y=16:=by omega
   have dF:=zeN HJ.s;have cd:=zae (F':=T) HJ.z;have iA:=hide (aS.setRow (F':=T) HJ.z)
   have fq:Hid (pi w (w6.setRow (w.heap.size+1+1) (JA T)) (.returned (JAv T)) k N1 N2):=by
    refine ⟨T,N,rfl,fun r hr=>?_,zh HJ.bl (by omega)⟩;obtain ⟨h1,h2,h3⟩:=HJ.t r hr;exact ⟨kr h1 (fun ad h=>setRow_other _ _ _ _ (fun e=>by have:=h2 ad h;omega)),fun ad h=>by have:=h2 ad h;omega,h3⟩
   clear HJ;go_wp2_with fail;exact bodyPost_ret (v:=JAv T) (Ct Tryz.results120 rfl iA) rfl fq.out
end
section
open Go.RowKit
attribute [local go_sem ↓] zq zp kW kH
attribute [local go_sem] xH qY zI zi qq zk qL
theorem zee {A B a b c:List Rn} (ha:aN A a) (hb:aN B b) (h:iF 2 a b c):cB A B c:=⟨h.1,fun n=>by rw [h.2 n,ha.2 n,hb.2 n];simp⟩
theorem zbk (a b:Pv) (w:World) (hA:am w a) (hB:am w b) :
  Calls Tryz.prog 73 #[PV a,PV b] w fun e w'=>ct w w' e (fun P=>∃ C:Nat -> List Rn,(∀ r,r < 16 -> cB (aa a.P r) (aa b.P r) (C r))/\af C P):=by
 have b1:=ze w (.cells (PC a) 26);have b2:=ze (w.alloc (.cells (PC a) 26)) (.cells (PC b) 26);have b3:=ze ((w.alloc (.cells (PC a) 26)).alloc (.cells (PC b) 26)) (.cells (PC pv0) 26);have p2:=zm (w.alloc (.cells (PC a) 26)) b;have p3:=zm ((w.alloc (.cells (PC a) 26)).alloc (.cells (PC b) 26)) pv0;simp only [World.size_alloc] at p2 p3;have i6:=hide (((zm w a).below b2).below b3);have eS:=hide (p2.below b3);have dh:=hide p3;have al:=hide (tmq b1 (b2.trans (b3.mono b2.size)));have KX:=hide (hA.below al);have FO:=hide (hB.below al);clear hA hB b1 b2 b3 p2 p3;obtain ⟨wk,aL⟩:∃ wk,((w.alloc (.cells (PC a) 26)).alloc (.cells (PC b) 26)).alloc (.cells (PC pv0) 26)=wk:=⟨_,rfl⟩
 have pZ:Hid (wk.heap.size=w.heap.size+1+1+1):=by show _=_;rw [<- aL];simp
 rw [aL] at i6 eS dh al KX FO;have Jq:Hid (Below wk.heap.size wk wk):=Below.refl _ _;have cG:Hid (∀ W':World,Below wk.heap.size wk W' -> (ldP (.pointer (some ⟨w.heap.size,0,none⟩))).run Tryz.prog W' = .ok (PV a) W'/\(ldP (.pointer (some ⟨w.heap.size+1,0,none⟩))).run Tryz.prog W' = .ok (PV b) W'):=fun W' h=>⟨zj (i6.below h).at,zj (eS.below h).at⟩;have m9:Hid (∀ (W':World) (p:Pv),Below wk.heap.size wk W' -> (ldP (.pointer (some ⟨w.heap.size,0,none⟩))).run Tryz.prog (W'.setRow (w.heap.size+1+1) (PC p)) = .ok (PV a) (W'.setRow (w.heap.size+1+1) (PC p))/\(ldP (.pointer (some ⟨w.heap.size+1,0,none⟩))).run Tryz.prog (W'.setRow (w.heap.size+1+1) (PC p)) = .ok (PV b) (W'.setRow (w.heap.size+1+1) (PC p))):=fun W' p h=>⟨zj (show av _ _ _ from (setRow_other _ _ _ _ (by omega)).trans (i6.below h)).at,zj (show av _ _ _ from (setRow_other _ _ _ _ (by omega)).trans (eS.below h)).at⟩
 go_enter Tryz.func73,Tryz.ntmps73;go_wp2_with fail;clear aL;refine wp_region_held_drew (S:=fun W=>(ldP (.pointer (some ⟨w.heap.size,0,none⟩))).run Tryz.prog W = .ok (PV a) W/\(ldP (.pointer (some ⟨w.heap.size+1,0,none⟩))).run Tryz.prog W = .ok (PV b) W) (by kernel_rfl) (cG.out _ (zf _)) (fun hHeld=>?_);refine wU 0 ?_;refine wU 2 ?_;refine wR 1 fun K hK=>?_;go_simp;go_wp2_with fail;refine (zat a _ (by exact KX.below (tmq Jq (zf wk)))).mono ?_;rintro e w2 ⟨Ta,Na,rfl,hT,hb⟩;have IQ:=hide ((zf wk).trans (hb.mono (zf wk).size));have Bn:=wTr Jq IQ.out;have LA:=hide hT;clear hT hb;refine hK.out _ _ (cG.out _ Bn) (fun hHeld=>?_);clear hK K;refine wR 3 fun K hK=>?_
 go_simp;go_wp2_with fail;refine (zat b _ (by exact FO.below Bn)).mono ?_;rintro e w3 ⟨Tb,Nb,rfl,hT,hb⟩;have Dh:=hide hb;have Dw:=wTr Bn Dh.out;have Kz:=hide hT;clear hT hb;refine hK.out _ _ (cG.out _ Dw) (fun hHeld=>?_);clear hK K;have tR:Hid (∀ r,r < 16 -> V.Src w3 (Ta r).ao (Ta r).n (Ta r).cap (tn (Na r))/\aN (aa a.P r) (Na r)):=fun r hr=>⟨(LA.out r hr).1.below Dh,(LA.out r hr).2.2⟩;have DB:Hid (∀ r,r < 16 -> V.Src w3 (Tb r).ao (Tb r).n (Tb r).cap (tn (Nb r))/\aN (aa b.P r) (Nb r)):=fun r hr=>⟨(Kz.out r hr).1,(Kz.out r hr).2.2⟩;refine wR 4 fun K hK=>?_;go_simp;go_wp2_with fail;refine (zbK Ta Tb Na Nb 2 _ (fun r hr=>⟨(tR.out r hr).1,(tR.out r hr).2.1⟩) (fun r hr=>⟨(DB.out r hr).1,(DB.out r hr).2.1⟩) (Or.inr rfl)).mono ?_
 rintro e w5 ⟨T,N,rfl,hT,hb⟩;have GT:=hide hb;have Bb:=wTr Dw GT.out;have HT:=hide hT;clear hT hb;refine hK.out _ _ (cG.out _ Bb) (fun hHeld=>?_);clear hK K;refine wR 5 fun K hK=>?_;go_simp;go_wp2_with fail;refine (ks T N _ (fun r hr=>⟨(HT.out r hr).1,(HT.out r hr).2.2.1⟩)).mono ?_;rintro e w6 ⟨p,rfl,S6,n6,b6,c6⟩;have GE:=hide b6;have tK:=wTr Bb GE.out;have dE:=Bb.size;have tQ:=pZ.out;obtain ⟨e1,e2,e3,e4,e5⟩:=qu (w:=w) (dh.below tK) S6 (n6.mono (by show _ <= w5.heap.size;omega)) (tmq al tK) (by omega);have iA:=hide e2;have fq:Hid (ct w _ (.returned (PV p)) (fun P=>∃ C:Nat -> List Rn,(∀ r,r < 16 -> cB (aa a.P r) (aa b.P r) (C r))/\af C P)):=⟨p,rfl,e3,e4,e5,N,fun r hr=>zee (tR.out r hr).2 (DB.out r hr).2 (HT.out r hr).2.2,N,fun r hr=>⟨(HT.out r hr).2.2.1,fun _=>Iff.rfl⟩,c6⟩
 have od:=hide (cG.out _ tK);clear S6 n6 b6 c6 e2 e3 e4 e5;refine hK.out _ _ od.out (fun hHeld=>?_);clear hK K;refine wR 6 fun K hK=>?_;go_simp;refine hK.out _ _ (m9.out _ _ tK) (fun hHeld=>?_);clear hK K;refine wD ?_ _;clear hHeld dE tQ;go_wp2_with fail;exact bodyPost_ret (v:=PV p) (eR Tryz.results73 rfl iA) rfl fq.out
end
section
open Go.RowKit
attribute [local go_sem ↓] zq zp kW kH
attribute [local go_sem] xH qY zI zi qq zk qL
theorem zal (a b:Pv) (w:World) (hA:am w a) (hB:am w b):Calls Tryz.prog 81 #[PV a,PV b] w fun e w'=>∃ x,e = .returned (.bool x)/\(x=true↔∀ r,r < 16 -> ∀ n,mem (aa a.P r) n -> mem (aa b.P r) n)/\Below w.heap.size w w':=by
 have b1:=ze w (.cells (PC a) 26);have b2:=ze (w.alloc (.cells (PC a) 26)) (.cells (PC b) 26);have p2:=zm (w.alloc (.cells (PC a) 26)) b;simp only [World.size_alloc] at p2
 have l1:=zj ((zm w a).below b2).at
 have l2:=zj p2.at
 have al:=hide (tmq b1 b2);have HA:=hide (hA.below al);have HB:=hide (hB.below al);clear hA hB b1 b2 p2;go_enter Tryz.func81,Tryz.ntmps81;go_wp2_with fail;refine (zbk a b _ HA.out HB).mono ?_;rintro e w3 ⟨p,rfl,S3,n3,b3,C,hC,c3⟩;have mn:=hide S3;have aw:=wTr al b3;have HC:=hide (And.intro hC c3);clear S3 n3 b3 hC c3 l1 l2;go_wp2_with fail;refine (xA p _ mn).mono ?_;rintro e w4 ⟨x,rfl,hx,b4⟩
 have fq:Hid (∃ y,(Ending.returned (.bool x):Ending) = .returned (.bool y)/\(y=true↔∀ r,r < 16 -> ∀ n,mem (aa a.P r) n -> mem (aa b.P r) n)/\Below w.heap.size w w4):=by
  refine ⟨x,rfl,?_,tmq aw b4⟩;rw [hx];have key:∀ r,r < 16 -> ∀ n,(mem (aa p.P r) n↔mem (aa a.P r) n/\¬ mem (aa b.P r) n):=fun r hr n=>(zZ HC.2 r hr n).trans ((HC.1 r hr).2 n);constructor
  ·intro h r hr n hm;by_cases hb:mem (aa b.P r) n
   ·exact hb
   ·exact absurd ((key r hr n).2 ⟨hm,hb⟩) (h r hr n)
  ·intro h r hr n hm;obtain ⟨h1,h2⟩:=(key r hr n).1 hm;exact h2 (h r hr n h1)
 clear hx b4;go_wp2_with fail;go_ret;exact fq.out
end
section
open Go.RowKit Go.Maps
open Classical in
noncomputable def waitB (P:Pst) (y:Rp):Bool:=decide (¬ wiP y.2 P)
def iW (L:List Rc) (P:Pst) (F:List Rc):Prop:=(∀ r∈F,ch r)/\plR F=(plR L).filter (waitB P)
theorem bT {P:Pst} {y:Rp} (h:wiP y.2 P):waitB P y=false:=by unfold waitB;simp [h]
theorem wN {P:Pst} {y:Rp} (h:¬ wiP y.2 P):waitB P y=true:=by unfold waitB;simp [h]
structure WtI (L:List Rc) (P:Pst) (k:Nat) (D:List Rc):Prop where
 ok:∀ r∈D,ch r
 eq:plR D=(plR (L.take k)).filter (waitB P)
theorem WtI.start (L:List Rc) (P:Pst):WtI L P 0 []:=⟨fun r h=>(by cases h),rfl⟩
theorem WtI.skip {L:List Rc} {P:Pst} {k:Nat} {D:List Rc} {r:Rc} (h:WtI L P k D) (hk:k < L.length) (hr:L.getD k rc0=r) (hw:wiP r.p.P P):WtI L P (k+1) D:=by
 refine ⟨h.ok,?_⟩;rw [kS L k hk,hr,List.filter_append,<- h.eq,List.filter_cons_of_neg (by rw [bT (show wiP (r.s,r.p.P).2 P from hw)];decide),List.filter_nil,List.append_nil]
theorem WtI.add {L:List Rc} {P:Pst} {k:Nat} {D:List Rc} {r c:Rc} (h:WtI L P k D) (hk:k < L.length) (hr:L.getD k rc0=r) (hw:¬ wiP r.p.P P) (hc:ch c) (e:rck c=rck r):WtI L P (k+1) (D++[c]):=by
 refine ⟨jl h.ok hc,?_⟩;rw [kS L k hk,hr,List.filter_append,<- h.eq,List.filter_cons_of_pos (wN (show ¬ wiP (r.s,r.p.P).2 P from hw)),List.filter_nil,yr,e];rfl
theorem WtI.done {L:List Rc} {P:Pst} {D:List Rc} (h:WtI L P L.length D):iW L P D:=⟨h.ok,by rw [h.eq,List.take_length]⟩
def WtA (w w':World) (x:Ending) (L:List Rc) (n:Nat) (P:Pst):Prop:=(OkR L n/\ag P/\∃ (h:Hs) (F:List Rc),x = .returned (.tuple #[HsV h,.int .i64 0])/\GvR w w' h F/\h.n <= n/\iW L P F)∨(¬ (OkR L n/\ag P)/\x = .returned (.tuple #[.slice none 0 0,.int .i64 1])/\Below w.heap.size w w')
attribute [local go_sem ↓] zq zp qf qe
attribute [local go_sem] zi zk zL zS qg
theorem jM (ao:Option Addr) (n ca:Nat) (L:List Rc) (p:Pv) (w:World) (hS:RcT w ao n ca L) (hP:am w p) (hn:n <= 2199023255551) :
  Calls Tryz.prog 34 #[.slice ao n ca,PV p] w fun x w'=>WtA w w' x L n p.P:=by
 have b1:=ze w (.cells (PC p) 26);have x1:=zm w p;obtain ⟨wk,aL⟩:∃ w1,w.alloc (.cells (PC p) 26)=w1:=⟨_,rfl⟩;obtain ⟨G,hG⟩:∃ g1,w.heap.size=g1:=⟨_,rfl⟩;rw [aL] at b1 x1;rw [hG] at x1;have al:=hide b1;have HX:=hide x1;have HS:=hide (hS.below b1);have HP:=hide (hP.below b1);have eT:Hid (L.length=n):=hS.src.len;have HN:=hide hn;clear b1 x1 hS hP;go_enter Tryz.func34,Tryz.ntmps34;go_wp2_with fail;clear aL hG;refine (xp ao n ca L _ HS.src).mono ?_;rintro x w1 ⟨z,rfl,hz,b1⟩;have aM:=hide b1
 have lp:=zj (HX.below b1).at
 clear b1;rcases hz with ⟨rfl,hO⟩ | ⟨rfl,hO⟩;rotate_left
 ·have HE:Hid (WtA w w1 (.returned (.tuple #[.slice none 0 0,.int .i64 1])) L n p.P):=.inr ⟨fun h=>hO h.1,rfl,tmq al aM⟩;clear hO lp;go_wp2_with fail;go_ret2;exact HE.out
 have HO:=hide hO;clear hO;go_wp2_with fail;clear lp;refine (xd p _ (HP.below aM)).mono ?_;rintro x w0 ⟨b,rfl,hb,b2⟩;have ie:=wTr aM b2;clear b2
 cases b with
 | false =>
  have HE:Hid (WtA w w0 (.returned (.tuple #[.slice none 0 0,.int .i64 1])) L n p.P):=.inr ⟨fun h=>(by have:=hb.2 h.2;cases this),rfl,tmq al ie⟩;clear hb;go_wp2_with fail;go_ret2;exact HE.out
 | true =>
  have HF:=hide (hb.1 rfl);have Ii:=hide (xy.1 (by rw [eT.out];exact HO):(∀ r∈L,ch r)/\Srt ck (plR L));clear hb;go_wp2_with fail;go_loopw [6,8,19] (fun v _ i wr=>∃ (k:Nat) (h:Hs) (D:List Rc),k <= n/\v = .slice h.o h.n h.c/\i = .int .i64 (k:Int)/\Hid (aO w0.heap.size w0 wr h D/\WtI L p.P k D/\(∀ r∈D,dA w0.heap.size r.p)/\h.n <= k)) (fun _ _ i _=>n - (intOf i).toNat)
  case atStart=>exact ⟨0,hs0,[],Nat.zero_le _,rfl,rfl,aO.nil w0,WtI.start L _,fun r hr=>(by cases hr),Nat.le_refl _⟩
  case round =>
   obtain ⟨k,h,D,hk,rfl,rfl,HI⟩:=hrel
   rename World=>wr
   have fl:Hid (Below wk.heap.size wk wr):=tmq ie HI.1.below;have lL:=HN.out;by_cases ak:k < n
   ·have aX:(k:Int) < (n:Int):=by omega
    obtain ⟨ad,cU,A0⟩:=(HS.below fl).src.at k ak;have lZ:=(HS.below fl).src.okAt k ak;obtain ⟨r,Hr⟩:∃ r,Hid (L.getD k rc0=r):=⟨_,rfl⟩;rw [Hr.out] at A0 lZ
    have up:Hid (ch r):=by
     have h:=Ii.1 _ (x6 (L:=L) (j:=k) (by rw [eT.out];exact ak));rw [Hr.out] at h;exact h
    subst cU;have dF:=zC A0;obtain ⟨g7,ia⟩:∃ g7,wr.heap.size=g7:=⟨_,rfl⟩;obtain ⟨w7,cd,X7,B7,S7⟩:=gt wr (mkR r) g7 ia;have fj:=hide (HI.1.later B7);have dR:=wTr fl B7;have t7:=hide X7;have BM:=hide (lZ.below B7);have lr:=zj X7.past
    have lp:=zj (HX.below dR).at
    have aK:=hide ak;clear A0 X7 B7 S7 lZ ak hk;go_wp2_with fail;clear cd dF ia lr lp;refine (zbV r.p p _ BM.1 (HP.below dR) up.2.1 HF).mono ?_;rintro e w8 ⟨b,rfl,hb,b8⟩;have eO:=hide (fj.later b8);have Hb:=hide hb;have Bq:=hide (BM.below b8);have l7:=qK (t7.below b8);clear hb b8
    cases b with
    | true =>
     have mL:Hid (aO w0.heap.size w0 w8 h D/\WtI L p.P (k+1) D/\(∀ r∈D,dA w0.heap.size r.p)/\h.n <= k+1):=⟨eO.out,HI.2.1.skip (by rw [eT.out];exact aK) Hr.out (Hb.1 rfl),HI.2.2.1,by have:=HI.2.2.2;omega⟩;go_wp2_with fail;clear l7;go_roundw
     case rel=>exact ⟨k+1,h,D,aK.out,rfl,by simp,mL.out⟩
     case measure=>simp [intOf];have:=aK.out;omega
    | false =>
     have Ge:Hid (¬ wiP r.p.P p.P):=fun h=>by have:=Hb.2 h;cases this
     go_wp2_with fail;clear l7;refine (ki r _ Bq).mono ?_;rintro e wa ⟨c,rfl,gR,Rc1,Nc,ba,Cc⟩;have Oa:=eO.later ba;have gB:eY h c.p:=fun j hj=>dI.new Nc (eO.own.lt j hj).2;obtain ⟨gb,cb2,wb,ee,Ob,oE,p9,tp⟩:=Oa.appAt c Rc1 gB (by have:=HI.2.2.2;have:=HN.out;have:=aK.out;omega);have oD:Hid ((Builtin.append_ #[27,27] 27 #[.slice h.o h.n h.c,.slice (some ⟨wa.heap.size,0,none⟩) 1 1]).run Tryz.prog (wa.alloc (.cells #[.string c.s,.slice c.p.vo c.p.vn c.p.vc,.slice c.p.co c.p.cn c.p.cc] 78)) = .ok (.slice (some ⟨gb,0,none⟩) (h.n+1) cb2) wb):=ee;have e:=wE up.out gR Cc;have mL:Hid (aO w0.heap.size w0 wb ⟨some ⟨gb,0,none⟩,h.n+1,cb2⟩ (D++[c])/\WtI L p.P (k+1) (D++[c])/\(∀ r∈D++[c],dA w0.heap.size r.p)/\h.n+1 <= k+1):=⟨Ob,HI.2.1.add (by rw [eT.out];exact aK) Hr.out Ge.out (kQ up.out e) e,jl HI.2.2.1 (Nc.mono eO.below.size),by have:=HI.2.2.2;omega⟩
     clear ee Ob Oa gB gR Rc1 Nc ba Cc oE p9 tp e;go_wp2_with (at_builtin;refine xI rfl (.tmp 28) (.tmp 31) rfl rfl rfl oD.out ?_);go_roundw
     case rel=>exact ⟨k+1,⟨some ⟨gb,0,none⟩,h.n+1,cb2⟩,D++[c],aK.out,rfl,by simp,mL.out⟩
     case measure=>simp [intOf];have:=aK.out;omega
   ·have aX:¬ (k:Int) < (n:Int):=by omega
    have HE:Hid (WtA w wr (.returned (.tuple #[.slice h.o h.n h.c,.int .i64 0])) L n p.P):=by
     obtain ⟨q1,q2,q3,q4⟩:=HI.out;rw [show k=L.length by rw [eT.out];omega] at q2;exact .inl ⟨HO.out,HF.out,h,D,rfl,q1.give (tmq al ie) q3 (by omega),by omega,q2.done⟩
    clear HI;go_wp2_with fail;go_ret2;exact HE.out
def WrA (w w':World) (x:Ending) (L:List Rc) (n:Nat) (P:Pst):Prop:=(OkR L n/\ag P/\∃ (h:Hs) (F:List Rc),x = .returned (.tuple #[HsV h,.int .i64 0])/\RcT w' h.o h.n h.c F/\(∀ ad,h.o=some ad -> w.heap.size <= ad.block)/\h.n <= n/\Below w.heap.size w w'/\iW L P F)∨(¬ (OkR L n/\ag P)/\x = .returned (.tuple #[.slice none 0 0,.int .i64 1])/\Below w.heap.size w w')
theorem zbf (ao:Option Addr) (n ca:Nat) (L:List Rc) (p:Pv) (w:World) (hS:RcT w ao n ca L) (hP:am w p) (hn:n <= 2199023255551) :
  Calls Tryz.prog 71 #[.slice ao n ca,PV p] w fun x w'=>WrA w w' x L n p.P:=by
 have b1:=ze w (.cells (PC p) 26);have x1:=zm w p;obtain ⟨wk,aL⟩:∃ w1,w.alloc (.cells (PC p) 26)=w1:=⟨_,rfl⟩;obtain ⟨G,hG⟩:∃ g1,w.heap.size=g1:=⟨_,rfl⟩;rw [aL] at b1 x1;rw [hG] at x1;have al:=hide b1;have HX:=hide x1;have HS:=hide (hS.below b1);have HP:=hide (hP.below b1);have eT:Hid (L.length=n):=hS.src.len;have HN:=hide hn;clear b1 x1 hS hP;go_enter Tryz.func71,Tryz.ntmps71;go_wp2_with fail;clear aL hG;refine (zci ao n ca L _ HS.src).mono ?_;rintro x w1 ⟨z,rfl,hz,b1⟩;have aM:=hide b1
 have lp:=zj (HX.below b1).at
 clear b1;rcases hz with ⟨rfl,hO⟩ | ⟨rfl,hO⟩;rotate_left
 ·have HE:Hid (WrA w w1 (.returned (.tuple #[.slice none 0 0,.int .i64 1])) L n p.P):=.inr ⟨fun h=>hO h.1,rfl,tmq al aM⟩;clear hO lp;go_wp2_with fail;go_ret2;exact HE.out
 have HO:=hide hO;clear hO;go_wp2_with fail;clear lp;refine (xM p _ (HP.below aM)).mono ?_;rintro x w0 ⟨b,rfl,hb,b2⟩;have ie:=wTr aM b2;clear b2
 cases b with
 | false =>
  have HE:Hid (WrA w w0 (.returned (.tuple #[.slice none 0 0,.int .i64 1])) L n p.P):=.inr ⟨fun h=>(by have:=hb.2 h.2;cases this),rfl,tmq al ie⟩;clear hb;go_wp2_with fail;go_ret2;exact HE.out
 | true =>
  have HF:=hide (hb.1 rfl);have Ii:=hide (xy.1 (by rw [eT.out];exact HO):(∀ r∈L,ch r)/\Srt ck (plR L));clear hb;go_wp2_with fail;go_loopw [6,7] (fun v i wr=>∃ (k:Nat) (h:Hs) (D:List Rc),k <= n/\v = .slice h.o h.n h.c/\i = .int .i64 (k:Int)/\Hid (aO w0.heap.size w0 wr h D/\WtI L p.P k D/\h.n <= k)) (fun _ i _=>n - (intOf i).toNat)
  case atStart=>exact ⟨0,hs0,[],Nat.zero_le _,rfl,rfl,aO.nil w0,WtI.start L _,Nat.le_refl _⟩
  case round =>
   obtain ⟨k,h,D,hk,rfl,rfl,HI⟩:=hrel
   rename World=>wr
   have fl:Hid (Below wk.heap.size wk wr):=tmq ie HI.1.below;have lL:=HN.out;by_cases ak:k < n
   ·have aX:(k:Int) < (n:Int):=by omega
    obtain ⟨ad,cU,A0⟩:=(HS.below fl).src.at k ak;obtain ⟨r,Hr⟩:∃ r,Hid (L.getD k rc0=r):=⟨_,rfl⟩
    obtain ⟨b1,o1,rfl⟩:∃ b1 o1,ad=⟨b1,o1,none⟩:=by
     have h:=(HS.below fl).src;rw [cU] at h;exact h.spot (by omega)
    have up:Hid (ch r):=by
     have h:=Ii.1 _ (x6 (L:=L) (j:=k) (by rw [eT.out];exact ak));rw [Hr.out] at h;exact h
    subst cU;have aK:=hide ak
    have HQ:Hid (∀ W,Below wk.heap.size wk W -> cM W r/\iE W ⟨b1,o1+k * 3,none⟩ (mkR r)):=fun W hW=>by
     have h1:=(HS.below hW).src.okAt k aK.out;have h2:=(HS.below hW).src.at_ _ rfl k aK.out;rw [Hr.out] at h1 h2;rw [Addr.add_lit] at h2;exact ⟨h1,h2⟩
    have aB:Hid (∀ W,Below wk.heap.size wk W -> (ldP (.pointer (some ⟨b1,o1+k * 3+1,none⟩))).run Tryz.prog W = .ok (PV r.p) W/\(ldP (.pointer (some ⟨G,0,none⟩))).run Tryz.prog W = .ok (PV p) W):=fun W hW=>⟨zj (HQ.out W hW).2.flat.2,zj (HX.below hW).at⟩;have gZ:=hide (tmq fl (zf wr));clear A0 ak hk;go_upto_region 7 with fail;refine wp_region_held_drew (S:=fun W=>(ldP (.pointer (some ⟨b1,o1+k * 3+1,none⟩))).run Tryz.prog W = .ok (PV r.p) W/\(ldP (.pointer (some ⟨G,0,none⟩))).run Tryz.prog W = .ok (PV p) W) (by kernel_rfl) (aB.out _ gZ) (fun hHeld=>?_);refine wU 0 ?_;refine wU 1 ?_;refine wU 2 ?_;refine wU 3 ?_;refine wU 4 ?_;refine wU 5 ?_;refine wR 6 fun K hK=>?_;go_simp;go_wp2_with fail;refine (zal r.p p _ (HQ.out _ gZ).1.1 (HP.below gZ)).mono ?_
    rintro x w8 ⟨b,rfl,hb,b8⟩;have Hb:Hid (b=true↔wiP r.p.P p.P):=hb;have gA:=wTr gZ b8;have b8:=hide b8;refine hK.out _ _ (aB.out _ gA) (fun hHeld=>?_);clear hK K hb gA;refine wU 7 ?_;refine wD ?_ _;clear hHeld;have eO:=hide (HI.1.later ((zf wr).trans b8))
    cases b with
    | true =>
     have mL:Hid (aO w0.heap.size w0 w8 h D/\WtI L p.P (k+1) D/\h.n <= k+1):=⟨eO.out,HI.2.1.skip (by rw [eT.out];exact aK) Hr.out (Hb.1 rfl),by have:=HI.2.2;omega⟩;go_wp2_with fail;go_roundw
     case rel=>exact ⟨k+1,h,D,aK.out,rfl,by simp,mL.out⟩
     case measure=>simp [intOf];have:=aK.out;omega
    | false =>
     have Ge:Hid (¬ wiP r.p.P p.P):=fun h=>by have:=Hb.2 h;cases this
     have gA:=wTr gZ b8.out;have la:=zC (HQ.out _ gA).2;obtain ⟨gb,cb2,wb,ee,Ob,oE,p9,tp⟩:=eO.appAt r (HQ.out _ gA).1 (zcu eO.out ((HQ.out w0 ie).1.1)) (by have:=HI.2.2;have:=HN.out;have:=aK.out;omega);have oD:Hid ((Builtin.append_ #[27,27] 27 #[.slice h.o h.n h.c,.slice (some ⟨w8.heap.size,0,none⟩) 1 1]).run Tryz.prog (w8.alloc (.cells #[.string r.s,.slice r.p.vo r.p.vn r.p.vc,.slice r.p.co r.p.cn r.p.cc] 78)) = .ok (.slice (some ⟨gb,0,none⟩) (h.n+1) cb2) wb):=ee;have mL:Hid (aO w0.heap.size w0 wb ⟨some ⟨gb,0,none⟩,h.n+1,cb2⟩ (D++[r])/\WtI L p.P (k+1) (D++[r])/\h.n+1 <= k+1):=⟨Ob,HI.2.1.add (by rw [eT.out];exact aK) Hr.out Ge.out up.out rfl,by have:=HI.2.2;omega⟩;clear ee Ob oE p9 tp;go_wp2_with (at_builtin;refine xI rfl (.tmp 30) (.tmp 35) rfl rfl rfl oD.out ?_)
     clear la;go_roundw
     case rel=>exact ⟨k+1,⟨some ⟨gb,0,none⟩,h.n+1,cb2⟩,D++[r],aK.out,rfl,by simp,mL.out⟩
     case measure=>simp [intOf];have:=aK.out;omega
   ·have aX:¬ (k:Int) < (n:Int):=by omega
    have HE:Hid (WrA w wr (.returned (.tuple #[.slice h.o h.n h.c,.int .i64 0])) L n p.P):=by
     obtain ⟨q1,q2,q3⟩:=HI.out;rw [show k=L.length by rw [eT.out];omega] at q2;obtain ⟨r1,r2,r3⟩:=zbt q1 (by omega);have hb:=tmq al ie;exact .inl ⟨HO.out,HF.out,h,D,rfl,r1,fun ad e=>Nat.le_trans hb.size (r2 ad e),by omega,tmq hb r3,q2.done⟩
    clear HI;go_wp2_with fail;go_ret2;exact HE.out
end
section
open Go.RowKit
theorem zcw {D:List Rn} {p q:Rn -> Bool} {a:Rn} (ha:a∈D) (hp:p a=true) (hq:q a=false) (hqp:∀ x,q x=true -> p x=true):D.countP q+1 <= D.countP p:=by
 induction D with
 | nil=>cases ha
 | cons x D ih =>
  have hm:D.countP q <= D.countP p:=List.countP_mono_left (fun y _ h=>hqp y h);rcases List.mem_cons.1 ha with rfl | h
  ·rw [List.countP_cons_of_pos hp,List.countP_cons_of_neg (by rw [hq];decide)];omega
  ·have h1:=ih h
   cases hx:q x
   ·rw [List.countP_cons_of_neg (by rw [hx];decide)]
    have h2:D.countP p <= (x :: D).countP p:=by rw [List.countP_cons];omega
    omega
   ·rw [List.countP_cons_of_pos hx,List.countP_cons_of_pos (hqp x hx)];omega
theorem bg (D:List Rn) (r:Int):∀ (X:List Rn) (l:Int),1 <= l -> form l X -> (∀ n,mem X n -> (⟨r,n⟩:Rn)∈D) -> X.length <= D.countP (fun d=>decide (d.lo=r) && decide (l <= d.hi))
 | [],_,_,_,_=>Nat.zero_le _
 | x :: X,l,hl,hf,hD=>by
  have h1:=hf.1;have h2:=hf.2.1;have h3:=bg D r X (x.hi+2) (by omega) hf.2.2.2 (fun n hn=>hD n ((mem_cons _ _ _).2 (.inr hn)));have h4:(⟨r,x.lo⟩:Rn)∈D:=hD x.lo ((mem_cons _ _ _).2 (.inl ⟨by omega,by have:=hf.2.2.1;omega,Int.le_refl _,h2⟩));have h5:=zcw (p:=fun d=>decide (d.lo=r) && decide (l <= d.hi)) (q:=fun d=>decide (d.lo=r) && decide (x.hi+2 <= d.hi)) h4 (by simp;omega) (by simp;omega) (fun y hy=>by simp at hy ⊢;omega);simp only [List.length_cons];omega
theorem yI {N:Nat -> List Rn} (D:List Rn):∀ k:Nat,(∀ r,r < k -> form 1 (N r)/\∀ n,mem (N r) n -> (⟨(r:Int),n⟩:Rn)∈D) -> (aJ N k).length <= D.countP (fun d=>decide (0 <= d.lo) && decide (d.lo < (k:Int)))
 | 0,_=>Nat.zero_le _
 | k+1,h=>by
  have h1:=yI D k (fun r hr=>h r (by omega));have h2:=vI (N k);have h3:=bg D k (N k) 1 (Int.le_refl _) (h k (by omega)).1 (h k (by omega)).2
  have h4:D.countP (fun d=>decide (0 <= d.lo) && decide (d.lo < (k:Int)))+D.countP (fun d=>decide (d.lo=(k:Int)) && decide (1 <= d.hi)) <= D.countP (fun d=>decide (0 <= d.lo) && decide (d.lo < ((k+1:Nat):Int))):=by
   clear h h1 h2 h3
   induction D with
   | nil=>simp
   | cons x D ih =>
    rw [List.countP_cons,List.countP_cons,List.countP_cons]
    have h5:(if (decide (0 <= x.lo) && decide (x.lo < (k:Int)))=true then 1 else 0)+(if (decide (x.lo=(k:Int)) && decide (1 <= x.hi))=true then 1 else 0) <= (if (decide (0 <= x.lo) && decide (x.lo < ((k+1:Nat):Int)))=true then 1 else 0):=by
     simp only [Bool.and_eq_true,decide_eq_true_eq]
     split <;> split <;> split <;> omega
    omega
  rw [aJ,List.length_append,ke];omega
theorem zcB {G:Nat -> List Rn} {P:Pst} (h:af G P) (D:List Rn) (hD:∀ r:Nat,r < 16 -> ∀ n,mem (G r) n -> (⟨(r:Int),n⟩:Rn)∈D):P.cloud.length <= D.length:=by
 obtain ⟨N,hN,rfl⟩:=h;exact Nat.le_trans (yI D 16 (fun r hr=>⟨(hN r hr).1,fun n hn=>hD r hr n (((hN r hr).2 n).1 hn)⟩)) List.countP_le_length
end
section
open Go.RowKit
def dn (R:List Rc) (e:K.En):Bool := !R.any (fun r=>cv r e)
theorem zg9 (R:List Rc) (e:K.En):dn R e=true↔R.countP (fun r=>cv r e)=0:=by
 unfold dn;rw [Bool.not_eq_true',List.any_eq_false,List.countP_eq_zero]
def ApA (w w':World) (x:Ending) (L:List K.En) (R:List Rc) (n:Nat):Prop:=(K.chk L=0/\OkR R n/\K.dz w w' x (L.filter (dn R)) 0)∨(¬ (K.chk L=0/\OkR R n)/\K.dz w w' x [] 1)
end
end Go.Proofs.YtjffpimfngdggaaGreat
namespace Go.Proofs
open Go.Shelf
def Tryz.keysM_ren:Go.Shelf.Ren:=⟨fun | 7=>147 | 10=>188 | n=>n,fun | 23=>187 | 26=>9 | 3=>151 | 28=>113 | 0=>0 | 27=>112 | 33=>95 | 4=>4 | n=>n,fun | n=>n⟩
theorem Tryz.keysM:Go.Proofs.SlLaysZ.n7 Tryz.prog Tryz.keysM_ren:={
 mixed:=by kernel_rfl
 f7:=⟨Tryz.f147.name,by decide,Tryz.func147.trans (congrArg some (by kernel_rfl))⟩
 f10:=⟨Tryz.f188.name,by decide,Tryz.func188.trans (congrArg some (by kernel_rfl))⟩
 t0:=Tryz.underlying0
 a0:=Tryz.isAgg0
 z0:=Tryz.sizeOf0
 v0:=Tryz.zeroValue0
 t4:=Tryz.underlying4
 a4:=Tryz.isAgg4
 z4:=Tryz.sizeOf4
 v4:=Tryz.zeroValue4
 t23:=Tryz.underlying187
 a23:=Tryz.isAgg187
 z23:=Tryz.sizeOf187
 v23:=Tryz.zeroValue187
 t26:=Tryz.underlying9
 a26:=Tryz.isAgg9
 z26:=Tryz.sizeOf9
 v26:=Tryz.zeroValue9
 t27:=Tryz.underlying112
 a27:=Tryz.isAgg112
 z27:=Tryz.sizeOf112
 v27:=Tryz.zeroValue112
 t28:=Tryz.underlying113
 a28:=Tryz.isAgg113
 z28:=Tryz.sizeOf113
 v28:=Tryz.zeroValue113
 t33:=Tryz.underlying95
 a33:=Tryz.isAgg95
 z33:=Tryz.sizeOf95
 v33:=Tryz.zeroValue95 }
def Tryz.sortedM_ren:Go.Shelf.Ren:=⟨fun | 6=>59 | 8=>105 | 9=>106 | 11=>158 | 13=>160 | 12=>159 | 23=>201 | 24=>202 | 14=>192 | 15=>193 | 16=>194 | 17=>195 | 18=>196 | 19=>197 | 20=>198 | 21=>199 | 22=>200 | 25=>227 | 26=>228 | 27=>229 | 28=>230 | 29=>231 | 30=>232 | 31=>248 | n=>n,fun | 26=>9 | 28=>113 | 24=>110 | 0=>0 | 3=>3 | 37=>201 | 48=>230 | 50=>232 | 4=>4 | 40=>223 | 39=>222 | 45=>174 | 5=>5 | 9=>9 | 51=>247 | 55=>251 | 57=>263 | 58=>132 | 33=>95 | n=>n,fun | n=>n⟩
theorem Tryz.sortedM:Go.Proofs.SlLaysZ.n6 Tryz.prog Tryz.sortedM_ren:={
 mixed:=by kernel_rfl
 f6:=⟨Tryz.f59.name,by decide,Tryz.func59.trans (congrArg some (by kernel_rfl))⟩
 f8:=⟨Tryz.f105.name,by decide,Tryz.func105.trans (congrArg some (by kernel_rfl))⟩
 f11:=⟨Tryz.f158.name,by decide,Tryz.func158.trans (congrArg some (by kernel_rfl))⟩
 t0:=Tryz.underlying0
 a0:=Tryz.isAgg0
 z0:=Tryz.sizeOf0
 v0:=Tryz.zeroValue0
 t24:=Tryz.underlying110
 a24:=Tryz.isAgg110
 z24:=Tryz.sizeOf110
 v24:=Tryz.zeroValue110
 t26:=Tryz.underlying9
 a26:=Tryz.isAgg9
 z26:=Tryz.sizeOf9
 v26:=Tryz.zeroValue9
 t28:=Tryz.underlying113
 a28:=Tryz.isAgg113
 z28:=Tryz.sizeOf113
 v28:=Tryz.zeroValue113
 i26:=by kernel_rfl }
def Tryz.sortM_ren:Go.Shelf.Ren:=⟨fun | 6=>106 | 8=>160 | 9=>159 | 19=>201 | 20=>202 | 21=>192 | 22=>193 | 23=>194 | 24=>195 | 25=>196 | 26=>197 | 27=>198 | 28=>199 | 29=>200 | 36=>227 | 31=>228 | 32=>229 | 37=>230 | 38=>231 | 39=>232 | 41=>248 | n=>n,fun | 27=>110 | 29=>9 | 3=>3 | 32=>201 | 26=>110 | 0=>0 | 44=>230 | 46=>232 | 4=>4 | 36=>223 | 35=>222 | 41=>174 | 5=>5 | 9=>9 | 53=>247 | 57=>251 | 63=>263 | 64=>132 | n=>n,fun | n=>n⟩
theorem Tryz.sortM:Go.Proofs.SlLaysM.n6 Tryz.prog Tryz.sortM_ren:={
 mixed:=by kernel_rfl
 f6:=⟨Tryz.f106.name,by decide,Tryz.func106.trans (congrArg some (by kernel_rfl))⟩
 f8:=Tryz.func160.trans (congrArg some (by kernel_rfl))
 f9:=⟨Tryz.f159.name,by decide,Tryz.func159.trans (congrArg some (by kernel_rfl))⟩
 f19:=Tryz.func201.trans (congrArg some (by kernel_rfl))
 f20:=Tryz.func202.trans (congrArg some (by kernel_rfl))
 f21:=⟨Tryz.f192.name,by decide,Tryz.func192.trans (congrArg some (by kernel_rfl))⟩
 f22:=⟨Tryz.f193.name,by decide,Tryz.func193.trans (congrArg some (by kernel_rfl))⟩
 f23:=⟨Tryz.f194.name,by decide,Tryz.func194.trans (congrArg some (by kernel_rfl))⟩
 f24:=⟨Tryz.f195.name,by decide,Tryz.func195.trans (congrArg some (by kernel_rfl))⟩
 f25:=⟨Tryz.f196.name,by decide,Tryz.func196.trans (congrArg some (by kernel_rfl))⟩
 f26:=⟨Tryz.f197.name,by decide,Tryz.func197.trans (congrArg some (by kernel_rfl))⟩
 f27:=⟨Tryz.f198.name,by decide,Tryz.func198.trans (congrArg some (by kernel_rfl))⟩
 f28:=⟨Tryz.f199.name,by decide,Tryz.func199.trans (congrArg some (by kernel_rfl))⟩
 f29:=⟨Tryz.f200.name,by decide,Tryz.func200.trans (congrArg some (by kernel_rfl))⟩
 f31:=Tryz.func228.trans (congrArg some (by kernel_rfl))
 f32:=Tryz.func229.trans (congrArg some (by kernel_rfl))
 f36:=⟨Tryz.f227.name,by decide,Tryz.func227.trans (congrArg some (by kernel_rfl))⟩
 f37:=⟨Tryz.f230.name,by decide,Tryz.func230.trans (congrArg some (by kernel_rfl))⟩
 f38:=⟨Tryz.f231.name,by decide,Tryz.func231.trans (congrArg some (by kernel_rfl))⟩
 f39:=⟨Tryz.f232.name,by decide,Tryz.func232.trans (congrArg some (by kernel_rfl))⟩
 f41:=⟨Tryz.f248.name,by decide,Tryz.func248.trans (congrArg some (by kernel_rfl))⟩
 t0:=Tryz.underlying0
 a0:=Tryz.isAgg0
 z0:=Tryz.sizeOf0
 v0:=Tryz.zeroValue0
 t3:=Tryz.underlying3
 a3:=Tryz.isAgg3
 z3:=Tryz.sizeOf3
 v3:=Tryz.zeroValue3
 t4:=Tryz.underlying4
 a4:=Tryz.isAgg4
 z4:=Tryz.sizeOf4
 v4:=Tryz.zeroValue4
 t5:=Tryz.underlying5
 a5:=Tryz.isAgg5
 z5:=Tryz.sizeOf5
 v5:=Tryz.zeroValue5
 t9:=Tryz.underlying9
 a9:=Tryz.isAgg9
 z9:=Tryz.sizeOf9
 v9:=Tryz.zeroValue9
 t26:=Tryz.underlying110
 a26:=Tryz.isAgg110
 z26:=Tryz.sizeOf110
 v26:=Tryz.zeroValue110
 t27:=Tryz.underlying110
 a27:=Tryz.isAgg110
 z27:=Tryz.sizeOf110
 v27:=Tryz.zeroValue110
 t29:=Tryz.underlying9
 a29:=Tryz.isAgg9
 z29:=Tryz.sizeOf9
 v29:=Tryz.zeroValue9
 t32:=Tryz.underlying201
 a32:=Tryz.isAgg201
 z32:=Tryz.sizeOf201
 v32:=Tryz.zeroValue201
 t35:=Tryz.underlying222
 a35:=Tryz.isAgg222
 z35:=Tryz.sizeOf222
 v35:=Tryz.zeroValue222
 t36:=Tryz.underlying223
 a36:=Tryz.isAgg223
 z36:=Tryz.sizeOf223
 v36:=Tryz.zeroValue223
 t41:=Tryz.underlying174
 a41:=Tryz.isAgg174
 z41:=Tryz.sizeOf174
 v41:=Tryz.zeroValue174
 t44:=Tryz.underlying230
 a44:=Tryz.isAgg230
 z44:=Tryz.sizeOf230
 v44:=Tryz.zeroValue230
 t46:=Tryz.underlying232
 a46:=Tryz.isAgg232
 z46:=Tryz.sizeOf232
 v46:=Tryz.zeroValue232
 t53:=Tryz.underlying247
 a53:=Tryz.isAgg247
 z53:=Tryz.sizeOf247
 v53:=Tryz.zeroValue247
 t57:=Tryz.underlying251
 a57:=Tryz.isAgg251
 z57:=Tryz.sizeOf251
 v57:=Tryz.zeroValue251
 t63:=Tryz.underlying263
 a63:=Tryz.isAgg263
 z63:=Tryz.sizeOf263
 v63:=Tryz.zeroValue263
 t64:=Tryz.underlying132
 a64:=Tryz.isAgg132
 z64:=Tryz.sizeOf132
 v64:=Tryz.zeroValue132 }
end Go.Proofs
namespace Go.Proofs.YtjffpimfngdggaaGreat
section
open Go.RowKit Go.Maps Go.Sort Go.Shelf

theorem zgr (m:Nat):AnyZ.SortsIn Tryz.prog Tryz.sortedM_ren Fence.wide m:=
 ⟨fun blk off cap ss W hH hblk dE=>callsIn_wide.2 (AnyM.slices_Sort_string Tryz.sortM blk off cap ss W hH hblk dE),
 fun p cap W=>callsIn_wide.2 (AnyM.slices_Sort_string_none Tryz.sortM p cap W)⟩
theorem zgW (mb:Option Nat) (W:World):Calls Tryz.prog 147 #[.map mb] W fun e w'=>e = .returned (.func (.func 188) #[] #[.pointer (some ⟨W.heap.size,0,none⟩)])/\w'=W.alloc (.cells #[.map mb] 187):=
 (callsIn_wide (n:=5)).1 (AnyZ.keys_in Tryz.keysM Fence.wide 5 trivial rfl mb W)
def mF (w w':World) (e:Ending) (T:List (List UInt8)):Prop:=∃ v,e = .returned v/\w'.ownsRow w.heap.size 9 1 v T.length (T.map encStr)/\Below w.heap.size w w'
theorem yR {H:Type} (b nn:Nat) (D0:DataW H) (R:Value -> Option (DataW H × List MemPlace)) (w:World) (a7:w.ownsMap Tryz.prog 9 R b nn D0) (hmax:Maps.size D0 <= maxLen) (hbytes:Maps.size D0 * 16 <= 140737488355328) :
  Calls Tryz.prog 59 #[.func (.func 188) #[] #[.pointer (some ⟨w.heap.size,0,none⟩)]] (w.alloc (.cells #[.map (some b)] 187)) fun e w'=>∃ ss:List (List UInt8),ss.Perm (strKeys D0)/\mF (w.alloc (.cells #[.map (some b)] 187)) w' e (ss.mergeSort leB):=by
 have FQ:=a7.lt
 have Gr:SeqGives Fence.wide 2 Tryz.prog 188 #[.pointer (some ⟨w.heap.size,0,none⟩)] encStr (fun ss=>ss.Perm (strKeys D0)) (Maps.size D0) (w.alloc (.cells #[.map (some b)] 187)):=
  AnyZ.keys_gives (ρ := Tryz.keysM_ren) { Tryz.keysM with } Fence.wide _ trivial rfl (by omega) w.heap.size b nn D0 _ (by simp) (by simp) (by
   obtain ⟨es,clock,hb,Ft,hs,hD⟩:=a7
   exact ⟨es,clock,(Below.heap_alloc _ _ b FQ).trans hb,Ft,hs,hD⟩)
 have h:=AnyZ.sorted_in Tryz.sortedM Fence.wide 5 trivial trivial trivial trivial rfl (by omega) (zgr _) (enters_of Tryz.func106 (by kernel_rfl) rfl) 188 #[.pointer (some ⟨w.heap.size,0,none⟩)] trivial (enters_of Tryz.func188 (by kernel_rfl) rfl) _ _ hmax hbytes _ Gr;refine ((callsIn_wide (n:=5)).1 h).mono ?_;rintro e w' ⟨v,ss,rfl,hS,dH,_,hb⟩;refine ⟨ss,hS,v,rfl,?_,hb⟩;have e1:(ss.mergeSort leB).length=ss.length:=(List.mergeSort_perm ss leB).length_eq;rw [e1];exact dH
end
section
open Go.RowKit

def mP (P:Pst):Nat -> Int -> Prop:=fun r n=>mem (aa P r) n
def mOr (M M':Nat -> Int -> Prop):Nat -> Int -> Prop:=fun r n=>M r n∨M' r n
def Oo (M M':Nat -> Int -> Prop):Nat -> Int -> Prop:=fun r n=>M r n/\M' r n
def JG (M M':Nat -> Int -> Prop):Nat -> Int -> Prop:=fun r n=>M r n/\¬ M' r n
def IsP (M:Nat -> Int -> Prop) (P:Pst):Prop:=∃ C,af C P/\∀ r,r < 16 -> ∀ n,mem (C r) n↔M r n
def Eqv (M M':Nat -> Int -> Prop):Prop:=∀ r,r < 16 -> ∀ n,M r n↔M' r n
theorem IsP.len {M:Nat -> Int -> Prop} {P:Pst} (h:IsP M P):P.cloud.length <= 8000000016:=by
 obtain ⟨C,hC,_⟩:=h;exact (j6 hC).1
theorem zfp {a b:Pst} {P:Pst} (h:∃ C:Nat -> List Rn,(∀ r,r < 16 -> cB (aa a r) (aa b r) (C r))/\af C P):IsP (JG (mP a) (mP b)) P:=by
 obtain ⟨C,hM,hC⟩:=h;exact ⟨C,hC,fun r hr n=>(hM r hr).2 n⟩
def SzP (M:Nat -> Int -> Prop) (z:Int):Prop:=∃ N,(∀ r,r < 16 -> form 1 (N r)/\∀ n,Go.Proofs.YtjffpimfngdggaaGreat.mem (N r) n↔M r n)/\z=fw N 16
theorem SzP.none:SzP (fun _ _=>False) 0:=⟨fun _=>[],fun _ _=>⟨trivial,fun n=>⟨fun h=>q9 n h,fun h=>h.elim⟩⟩,by decide⟩
end
section
open Go.RowKit Go.Maps Go.Sort
theorem aO.setOther {B:Nat} {w W:World} {h:Hs} {L:List Rc} (O:aO B w W h L) (g:Nat) (cs:Array Value) (hg:w.heap.size <= g) (cr:(HsV h).ownBlock≠some g) (hf:∀ r∈L,dI r.p g):aO B w (W.setRow g cs) h L:=by
 have hs:(W.setRow g cs).heap.size=W.heap.size:=by simp [World.setRow]
 have hk:∀ q,q < W.heap.size -> some q≠some g -> (W.setRow g cs).heap[q]? = W.heap[q]?:=fun q _ hq=>setRow_other _ _ _ _ (fun e=>hq (by rw [e]));have hG:W.grownBy (W.setRow g cs) (some g):=⟨rfl,rfl,rfl,by omega,hk⟩;exact ⟨O.own.kept hG (.inr cr),fun r hr=>⟨⟨x7 (O.ok r hr).1.1 (fun k e=>by obtain rfl:=Option.some.inj e;exact hf r hr) hk,(O.ok r hr).1.2⟩,(O.ok r hr).2⟩,zh O.below hg,O.hB.1,by have:=O.hB.2;omega⟩
def ofS (R:List Rc) (s:ByteArray):List Pv:=(R.filter (fun r=>decide (r.s=s))).map (fun r=>r.p)
theorem zaw (R:List Rc) (s:ByteArray):(ofS R s).length <= R.length:=by unfold ofS;rw [List.length_map];exact List.length_filter_le _ _
theorem zgK (R:List Rc) (r:Rc) (s:ByteArray):pvs (ofS (R++[r]) s)=if s=r.s then pvs (ofS R s)++(PC r.p).toList else pvs (ofS R s):=by
 unfold ofS;rw [List.filter_append,List.map_append,bj];by_cases h:s=r.s
 ·subst h;simp [zeW]
 ·have h':¬ r.s=s:=fun e=>h e.symm;simp [h,h',pvs]
theorem zav {R:List Rc} {s:ByteArray} {p:Pv}:p∈ofS R s↔∃ r∈R,r.s=s/\r.p=p:=by
 unfold ofS;rw [List.mem_map];constructor
 ·rintro ⟨r,hr,rfl⟩;have:=List.mem_filter.1 hr;exact ⟨r,this.1,by simpa using this.2,rfl⟩
 ·rintro ⟨r,hr,hs,rfl⟩;exact ⟨r,List.mem_filter.2 ⟨hr,by simpa using hs⟩,rfl⟩
theorem kg (X:List Pv) (r:Nat) (n:Int):mem (aA X r) n↔∃ p∈X,mem (aa p.P r) n:=by
 induction X with
 | nil=>simp [aA,mem]
 | cons p X ih =>
  have e:aA (p :: X) r=aa p.P r++aA X r:=rfl;rw [e,mem_append,ih];simp
def cS:ByteArray:=⟨#[]⟩
def fC (R:List Rc) (s:ByteArray) (r:Nat) (n:Int):Prop:=(∃ x∈R,x.s=s/\mem (aa x.p.P r) n)/\(s≠cS -> ¬ ∃ x∈R,x.s=cS/\mem (aa x.p.P r) n)
theorem zaG {R:List Rc} {s:ByteArray} {P:Pst} (h:af (aA (ofS R s)) P) (r:Nat) (hr:r < 16) (n:Int):mem (aa P r) n↔∃ x∈R,x.s=s/\mem (aa x.p.P r) n:=by
 rw [zZ h r hr n,kg];constructor
 ·rintro ⟨p,hp,hm⟩;obtain ⟨x,hx,hs,rfl⟩:=zav.1 hp;exact ⟨x,hx,hs,hm⟩
 ·rintro ⟨x,hx,hs,hm⟩;exact ⟨x.p,zav.2 ⟨x,hx,hs,rfl⟩,hm⟩
theorem zhb {R:List Rc} {P:Pst} (h:af (aA (ofS R cS)) P):IsP (fC R cS) P:=
 ⟨_,h,fun r hr n=>by
  rw [<- zZ h r hr n,zaG h r hr n]
  exact ⟨fun h=>⟨h,fun e=>absurd rfl e⟩,fun h=>h.1⟩⟩
theorem zha {R:List Rc} {s:ByteArray} {P A M:Pst} (hs:s≠cS) (h:af (aA (ofS R s)) P) (ha:af (aA (ofS R cS)) A) (hm:∃ C:Nat -> List Rn,(∀ r,r < 16 -> cB (aa P r) (aa A r) (C r))/\af C M):IsP (fC R s) M:=by
 obtain ⟨C,hC,hI⟩:=zfp hm;refine ⟨C,hC,fun r hr n=>(hI r hr n).trans ?_⟩
 show mem (aa P r) n/\¬ mem (aa A r) n↔_
 rw [zaG h r hr n,zaG ha r hr n];exact ⟨fun h=>⟨h.1,fun _=>h.2⟩,fun h=>⟨h.1,h.2 hs⟩⟩
def lm (R F:List Rc):Prop:=F.Pairwise (fun a b=>eZ a.s b.s < 0)/\(∀ x∈F,(∃ r∈R,r.s=x.s)/\IsP (fC R x.s) x.p.P/\¬ gW x.p.P)/\∀ s,(∃ r∈R,r.s=s) -> (∀ x∈F,x.s≠s) -> ∀ r,r < 16 -> ∀ n,¬ fC R s r n
def fY (R:List Rc) (T:List (List UInt8)) (F:List Rc):Prop:=(F.map (fun x=>x.s.data.toList)).Sublist T/\(∀ x∈F,IsP (fC R x.s) x.p.P/\¬ gW x.p.P)/\∀ t∈T,(∀ x∈F,x.s≠⟨t.toArray⟩) -> ∀ r,r < 16 -> ∀ n,¬ fC R ⟨t.toArray⟩ r n
theorem fY.start (R:List Rc):fY R [] []:=⟨List.Sublist.refl _,fun x h=>(by cases h),fun t h=>(by cases h)⟩
theorem fY.skip {R F:List Rc} {T:List (List UInt8)} (h:fY R T F) (t:List UInt8) (he:∀ r,r < 16 -> ∀ n,¬ fC R ⟨t.toArray⟩ r n):fY R (T++[t]) F:=by
 refine ⟨h.1.trans (List.sublist_append_left _ _),h.2.1,fun u hu hn=>?_⟩;rcases List.mem_append.1 hu with hu | hu
 ·exact h.2.2 u hu hn
 ·obtain rfl:u=t:=by simpa using hu
  exact he
theorem fY.add {R F:List Rc} {T:List (List UInt8)} (h:fY R T F) (t:List UInt8) (x:Rc) (hx:x.s=⟨t.toArray⟩) (hI:IsP (fC R x.s) x.p.P) (hE:¬ gW x.p.P):fY R (T++[t]) (F++[x]):=by
 refine ⟨?_,fun y hy=>?_,fun u hu hn=>?_⟩
 ·rw [List.map_append];refine h.1.append ?_;simp [hx]
 ·rcases List.mem_append.1 hy with hy | hy
  ·exact h.2.1 y hy
  ·obtain rfl:y=x:=by simpa using hy
   exact ⟨hI,hE⟩
 ·rcases List.mem_append.1 hu with hu | hu
  ·exact h.2.2 u hu (fun y hy=>hn y (List.mem_append_left _ hy))
  ·obtain rfl:u=t:=by simpa using hu
   exact absurd hx (hn x (by simp))
theorem fY.done {R F:List Rc} {T:List (List UInt8)} (h:fY R T F) (hT:T.Pairwise (fun a b=>Lib.compareBytes a b < 0)) (hK:∀ t,t∈T↔∃ r∈R,r.s=⟨t.toArray⟩):lm R F:=by
 refine ⟨List.pairwise_map.1 (hT.sublist h.1),fun x hx=>⟨?_,h.2.1 x hx⟩,fun s hs hn=>?_⟩
 ·have:=(hK x.s.data.toList).1 (h.1.subset (List.mem_map.2 ⟨x,hx,rfl⟩));simpa using this
 ·have hm:s.data.toList∈T:=(hK _).2 (by simpa using hs);have:=h.2.2 _ hm (by simpa using hn);simpa using this
end
end Go.Proofs.YtjffpimfngdggaaGreat
