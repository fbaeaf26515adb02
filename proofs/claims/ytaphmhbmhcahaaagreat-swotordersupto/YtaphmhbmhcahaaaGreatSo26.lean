/- GKs BRr TUo TCk LPu LLtr LSrt LDd LShf LMr LOnc -/
import Derived.Test.YtaphmhbmhcahaaaGreatTk
import Derived.Test.YtaphmhbmhcahaaaGreatSo25
import Derived.Laws.Cover1
import Derived.Test.YtaphmhbmhcahaaaGreatSo23
import Derived.Deep.CutRange
import Derived.Deep.CutBlock
import Derived.Test.YtaphmhbmhcahaaaGreatSo17
import Derived.Test.YtaphmhbmhcahaaaGreatSo18
import Derived.Test.YtaphmhbmhcahaaaGreatSo12
import Derived.Below
import Derived.Laws.MakeOwn
import Derived.Deep.LoopGhost
import Derived.Lib.SlicesCompact
import Derived.Shelf.SlSortCmp.WholeK
import Derived.Test.YtaphmhbmhcahaaaGreatProg
import Derived.Shelf.SlicesQ.Reverse
import Derived.Lib.OwnBridge
import Derived.Test.YtaphmhbmhcahaaaGreatSo21
set_option maxRecDepth 100000
set_option maxHeartbeats 3200000
namespace Go.Proofs.YtaphmhbmhcahaaaGreat
section
open Go.RowKit
attribute [local go_sem ↓] ldP_eq stP_eq ldRe_eq stRe_eq
attribute [local go_sem] cells_PV PC_size cells_ReV ReC_size zero_ReC
theorem cmpV_of {P Q:Pst} {z:Int} (h:CmpV P Q z):CmpOf P Q z:=h
theorem two_recs (w:World) (q r:Rc) (g:Nat) (hg:w.heap.size=g) (ga gb:Nat) (h:(ga=g/\gb=g+1)∨(ga=g+1/\gb=g)) :
  ∃ w5,(stRe (.pointer (some ⟨ga,0,none⟩)) (.agg (ReC (mkR q)))).run Tryz.prog ((w.alloc (.cells (ReC re0) 80)).alloc (.cells (ReC re0) 80)) = .ok () w5/\Below w.heap.size w w5 /\
  ∃ w6,(stRe (.pointer (some ⟨gb,0,none⟩)) (.agg (ReC (mkR r)))).run Tryz.prog w5 = .ok () w6/\ReBox w6 ga (mkR q)/\ReBox w6 gb (mkR r)/\Below w.heap.size w w6:=by
 subst hg;have x1:=(ReBox_new w re0).below (below_new _ (.cells (ReC re0) 80));have x2:=ReBox_new (w.alloc (.cells (ReC re0) 80)) re0;rw [World.size_alloc] at x2;have b0:=(below_new w (.cells (ReC re0) 80)).trans ((below_new _ (.cells (ReC re0) 80)).mono (below_new w (.cells (ReC re0) 80)).size);rcases h with ⟨rfl,rfl⟩ | ⟨rfl,rfl⟩
 ·have y2:=(setRow_other _ _ _ _ (show w.heap.size+1≠w.heap.size by omega):(World.setRow _ w.heap.size (ReC (mkR q))).heap[w.heap.size+1]? = _).trans x2;refine ⟨_,run_stRe x1,below_setRow b0 (Nat.le_refl _),_,run_stRe y2,?_,ReBox.setRow y2,below_setRow (below_setRow b0 (Nat.le_refl _)) (by omega)⟩;exact (setRow_other _ _ _ _ (by omega)).trans (ReBox.setRow x1)
 ·have y1:=(setRow_other _ _ _ _ (show w.heap.size≠w.heap.size+1 by omega):(World.setRow _ (w.heap.size+1) (ReC (mkR q))).heap[w.heap.size]? = _).trans x1;refine ⟨_,run_stRe x2,below_setRow b0 (by omega),_,run_stRe y1,?_,ReBox.setRow y1,below_setRow (below_setRow b0 (by omega)) (Nat.le_refl _)⟩;exact (setRow_other _ _ _ _ (by omega)).trans (ReBox.setRow x2)
theorem cb_less:∀ x y:List UInt8,Op.bytesLess x y=decide (Lib.compareBytes x y < 0)/\(x == y)=decide (Lib.compareBytes x y=0)
 | [],[]=>by simp [Op.bytesLess,Lib.compareBytes]
 | [],_ :: _=>by simp [Op.bytesLess,Lib.compareBytes]
 | _ :: _,[]=>by simp [Op.bytesLess,Lib.compareBytes]
 | a :: x,b :: y=>by
  obtain ⟨h1,h2⟩:=cb_less x y;by_cases hab:a < b
  ·have hne:a≠b:=fun e=>by subst e;exact absurd hab (UInt8.lt_irrefl a)
   simp [Op.bytesLess,Lib.compareBytes,hab,hne]
  ·by_cases hba:b < a
   ·have hne:a≠b:=fun e=>by subst e;exact absurd hba (UInt8.lt_irrefl a)
    simp [Op.bytesLess,Lib.compareBytes,hab,hba,hne]
   ·have he:a=b:=UInt8.le_antisymm (UInt8.not_lt.1 hba) (UInt8.not_lt.1 hab);subst he
    have h3:(a :: x == a :: y)=(x == y):=by simp
    rw [h3,h2];simp only [Op.bytesLess,h1,Lib.compareBytes,if_neg hab];simp
theorem toL (s:ByteArray):s.toList=s.data.toList:=ByteArray.toList_eq s
theorem str_facts (a b:ByteArray):Op.bytesLess a.toList b.toList=decide (cmpS a b < 0)/\(a.toList == b.toList)=decide (cmpS a b=0):=by
 rw [toL,toL];exact cb_less _ _
theorem refRecords_any (ao:Option Addr) (n cap:Nat) (L:List Rc) (w:World) (hS:RcS w ao n cap L):Calls Tryz.prog 56 #[.slice ao n cap] w fun e w'=>GivB w w' e (OkR L n):=by
 have HS:=hide hS;have hn:=hS.big;clear hS;go_enter Tryz.func56,Tryz.ntmps56;go_wp2_with fail;go_loopw [3] (fun i wr=>∃ k:Nat,k <= n/\i = .int .i64 k/\Hid (OkR L k)/\Hid (Below w.heap.size w wr)) (fun i _=>n - (intOf i).toNat)
 case atStart=>exact ⟨0,Nat.zero_le _,rfl,okR_zero L,Below.refl _ _⟩
 case round =>
  obtain ⟨k,hk,rfl,HK,HB⟩:=hrel
  rename World=>wr
  by_cases hlt:k < n
  ·obtain ⟨ad,rfl,A0⟩:=(HS.out.below HB.out).at k hlt;have hld:=run_laRe A0;have HO:=hide ((HS.out.below HB.out).okAt k hlt);have HSr:=hide (HS.out.below HB.out);obtain ⟨r,Hr⟩:∃ r,Hid (L.getD k rc0=r):=⟨_,rfl⟩;rw [Hr.out] at hld HO;clear A0;have Hlt:=hide hlt;go_wp2_with fail;refine (refRecord_any r _ HO.out).mono ?_;rintro e w1 ⟨b,rfl,hb,b1⟩;have HB1:=wTr HB b1;have HS1:=hide (HSr.out.below b1);clear b1 hld HSr HO
   cases b with
   | false =>
    have HN:Hid (¬ OkR L n):=fun h=>by have h1:=(h k Hlt.out).1;rw [Hr.out] at h1;have:=hb.out.2 h1;cases this
    clear hb;go_wp2_with fail;go_ret;exact ⟨_,rfl,BIf.no HN.out,HB1.out⟩
   | true =>
    have HOk:Hid (RecOk (L.getD k rc0)):=by rw [Hr.out];exact hb.out.1 rfl
    clear hb;by_cases hk0:k=0
    ·have hk1:decide (0 < k)=false:=by rw [decide_eq_false_iff_not];omega
     have HK0:=hide hk0
     have hk2:¬ (0 < k):=by omega
     clear hk0;go_wp2_with fail;go_roundw
     case rel=>exact ⟨k+1,by omega,by simp,HK.out.snoc HOk.out (fun h=>absurd h (by have:=HK0.out;omega)),HB1.out⟩
     case measure=>simp [intOf];omega
    ·obtain ⟨j,Hj⟩:∃ j,Hid (k=j+1):=⟨k - 1,(show k=k - 1+1 by omega)⟩
     have hjn:j < n:=by have:=Hj.out;omega
     have hwj:IntKind.i64.wrap ((k:Int) - 1)=(j:Int):=by rw [IntKind.wrap_i64];have:=Hj.out;omega
     have hk1:decide (0 < k)=true:=by rw [decide_eq_true_iff];omega
     have hk2:0 < k:=by omega
     obtain ⟨ad',e',Aj⟩:=HS1.out.at j hjn;obtain rfl:=Option.some.inj e';obtain ⟨ad',e2',Ak⟩:=HS1.out.at k Hlt.out;obtain rfl:=Option.some.inj e2';have HOj:=hide (HS1.out.okAt j hjn);have HOk2:=hide (HS1.out.okAt k Hlt.out);obtain ⟨q,Hq⟩:∃ q,Hid (L.getD j rc0=q):=⟨_,rfl⟩;rw [Hq.out] at Aj HOj;rw [Hr.out] at Ak HOk2;have HAj:=hide Aj;have HAk:=hide Ak
     have HLt:Hid (∀ z,CmpR q r z -> z < 0 -> (0 < k -> LtR (L.getD (k - 1) rc0) (L.getD k rc0))):=fun z h1 h2 _=>by
      rw [show k - 1=j by have:=Hj.out;omega,Hr.out,Hq.out];exact ⟨z,h1,h2⟩
     have HNo:Hid (∀ z,CmpR q r z -> ¬ z < 0 -> ¬ OkR L n):=fun z h1 h2 h=>by
      have h3:=(h k Hlt.out).2 (by have:=Hj.out;omega);rw [show k - 1=j by have:=Hj.out;omega,Hr.out,Hq.out] at h3;obtain ⟨z2,h4,h5⟩:=h3;have:=h1.unique h4;omega
     clear Aj Ak e' e2' hk0;go_wp2_with fail;refine wp_region_held_drew (S:=fun v=>(ldRe (.pointer (some (ad.add (j * 3))))).run Tryz.prog v = .ok (.agg (ReC (mkR q))) v/\(ldRe (.pointer (some (ad.add (k * 3))))).run Tryz.prog v = .ok (.agg (ReC (mkR r))) v) (by kernel_rfl) (⟨run_laRe (HAj.out.on (below_drew1 w1)),run_laRe (HAk.out.on (below_drew1 w1))⟩) (fun hHeld=>?_);have bD:=below_drew1 w1;have eD:w1.drew.heap.size=w1.heap.size:=rfl;obtain ⟨wd,hwd⟩:∃ wd,w1.drew=wd:=⟨_,rfl⟩;rw [hwd] at bD eD hHeld ⊢;obtain ⟨gd,hgd⟩:∃ g,w1.heap.size=g:=⟨_,rfl⟩;rw [hgd] at eD;refine wU 0 ?_;refine wU 1 ?_;refine wU 2 ?_;refine wU 3 ?_;refine wU 4 ?_;refine wU 5 ?_;refine wU 6 ?_;refine wU 7 ?_;refine wU 8 ?_;refine wpAnyH_ready (rs:=[9,10]) (by kernel_rfl) (by simp) ?_;refine AllReadyH.cons rfl (fun K hK=>?_) (AllReadyH.cons rfl (fun K hK=>?_) AllReadyH.nil)
     ·go_simp;refine hK.out _ _ (⟨run_laRe (HAj.out.on (bD.trans ((below_new _ _).mono bD.size))),run_laRe (HAk.out.on (bD.trans ((below_new _ _).mono bD.size)))⟩) (fun hHeld=>?_);clear hK K;refine wpAnyH_ready (rs:=[10]) (by kernel_rfl) (by simp) (.cons rfl (fun K hK=>?_) .nil);go_simp;refine hK.out _ _ (⟨run_laRe (HAj.out.on ((bD.trans ((below_new _ _).mono bD.size)).trans ((below_new _ _).mono (bD.trans ((below_new _ _).mono bD.size)).size))),run_laRe (HAk.out.on ((bD.trans ((below_new _ _).mono bD.size)).trans ((below_new _ _).mono (bD.trans ((below_new _ _).mono bD.size)).size)))⟩) (fun hHeld=>?_);clear hK K;obtain ⟨w5,hs5,b5,w6,hs6,x6,y6,b6⟩:=two_recs wd q r gd eD (gd) (gd+1) (.inl ⟨rfl,rfl⟩);refine wpAnyH_ready (rs:=[11]) (by kernel_rfl) (by simp) (.cons rfl (fun K hK=>?_) .nil);go_simp;refine hK.out _ _ (⟨run_laRe (HAj.out.on (bD.trans (b5.mono bD.size))),run_laRe (HAk.out.on (bD.trans (b5.mono bD.size)))⟩) (fun hHeld=>?_)
      clear hK K hs5;refine wpAnyH_ready (rs:=[12]) (by kernel_rfl) (by simp) (.cons rfl (fun K hK=>?_) .nil);go_simp;refine hK.out _ _ (⟨run_laRe (HAj.out.on (bD.trans (b6.mono bD.size))),run_laRe (HAk.out.on (bD.trans (b6.mono bD.size)))⟩) (fun hHeld=>?_);clear hK K hs6;refine wpAnyH_done (by kernel_rfl) ?_ _;clear hHeld;have HF:Hid ((ReBox w6 (gd) (mkR q)/\ReBox w6 (gd+1) (mkR r))/\Below w1.heap.size w1 w6/\PSrc w6 q.p/\PSrc w6 r.p):=⟨⟨x6,y6⟩,bD.trans (b6.mono bD.size),(HOj.out.below (bD.trans (b6.mono bD.size))).1,(HOk2.out.below (bD.trans (b6.mono bD.size))).1⟩;clear x6 y6 b5 b6 bD eD hwd hgd HAj HAk HOj HOk2 HS1;obtain ⟨h4,h5⟩:=HF.out.1;obtain ⟨h6,h7,h8⟩:=HF.out.2;have HB5:=wTr HB1 h6;have HSj:=hide h7;have HSk:=hide h8;have HX4:=hide h4;have HX5:=hide h5;have s4:=h4.sk;have s5:=h5.sk;have p4:=run_ldP h4.past;have p5:=run_ldP h5.past
      clear h4 h5 h6 h7 h8 HF;obtain ⟨f1,f2⟩:=str_facts q.s r.s;by_cases hlt0:cmpS q.s r.s < 0
      ·rw [decide_eq_true hlt0] at f1;rw [decide_eq_false (show ¬ cmpS q.s r.s=0 by omega)] at f2;have HL:=hide (HLt.out _ (.inl ⟨by omega,rfl⟩) hlt0);clear hlt0;go_wp2_with fail;go_roundw
       case rel=>exact ⟨k+1,by omega,by simp,HK.out.snoc HOk.out HL.out,HB5.out⟩
       case measure=>simp [intOf];omega
      ·rw [decide_eq_false hlt0] at f1;by_cases he0:cmpS q.s r.s=0
       ·rw [decide_eq_true he0] at f2;have HE0:=hide he0;clear hlt0 he0;go_wp2_with fail;refine (refCompare_any q.p r.p _ HSj.out HSk.out).mono ?_;rintro e w7 ⟨z,rfl,hz,b7⟩;have HZ:Hid (CmpR q r z):=.inr ⟨HE0.out,cmpV_of hz⟩;have HB7:=wTr HB5 b7;clear hz b7 p4 p5 s4 s5;by_cases hz0:(0:Int) <= z
        ·have HN:=hide (HNo.out z HZ.out (by omega));go_wp2_with fail;go_ret;exact ⟨_,rfl,BIf.no HN.out,HB7.out⟩
        ·have HL:=hide (HLt.out z HZ.out (by omega));go_wp2_with fail;go_roundw
         case rel=>exact ⟨k+1,by omega,by simp,HK.out.snoc HOk.out HL.out,HB7.out⟩
         case measure=>simp [intOf];omega
       ·rw [decide_eq_false he0] at f2;have HN:=hide (HNo.out _ (.inl ⟨he0,rfl⟩) (by omega));clear hlt0 he0;go_wp2_with fail;go_ret;exact ⟨_,rfl,BIf.no HN.out,HB5.out⟩
     ·go_simp;refine hK.out _ _ (⟨run_laRe (HAj.out.on (bD.trans ((below_new _ _).mono bD.size))),run_laRe (HAk.out.on (bD.trans ((below_new _ _).mono bD.size)))⟩) (fun hHeld=>?_);clear hK K;refine wpAnyH_ready (rs:=[9]) (by kernel_rfl) (by simp) (.cons rfl (fun K hK=>?_) .nil);go_simp;refine hK.out _ _ (⟨run_laRe (HAj.out.on ((bD.trans ((below_new _ _).mono bD.size)).trans ((below_new _ _).mono (bD.trans ((below_new _ _).mono bD.size)).size))),run_laRe (HAk.out.on ((bD.trans ((below_new _ _).mono bD.size)).trans ((below_new _ _).mono (bD.trans ((below_new _ _).mono bD.size)).size)))⟩) (fun hHeld=>?_);clear hK K;obtain ⟨w5,hs5,b5,w6,hs6,x6,y6,b6⟩:=two_recs wd q r gd eD (gd+1) (gd) (.inr ⟨rfl,rfl⟩);refine wpAnyH_ready (rs:=[11]) (by kernel_rfl) (by simp) (.cons rfl (fun K hK=>?_) .nil);go_simp;refine hK.out _ _ (⟨run_laRe (HAj.out.on (bD.trans (b5.mono bD.size))),run_laRe (HAk.out.on (bD.trans (b5.mono bD.size)))⟩) (fun hHeld=>?_)
      clear hK K hs5;refine wpAnyH_ready (rs:=[12]) (by kernel_rfl) (by simp) (.cons rfl (fun K hK=>?_) .nil);go_simp;refine hK.out _ _ (⟨run_laRe (HAj.out.on (bD.trans (b6.mono bD.size))),run_laRe (HAk.out.on (bD.trans (b6.mono bD.size)))⟩) (fun hHeld=>?_);clear hK K hs6;refine wpAnyH_done (by kernel_rfl) ?_ _;clear hHeld;have HF:Hid ((ReBox w6 (gd+1) (mkR q)/\ReBox w6 (gd) (mkR r))/\Below w1.heap.size w1 w6/\PSrc w6 q.p/\PSrc w6 r.p):=⟨⟨x6,y6⟩,bD.trans (b6.mono bD.size),(HOj.out.below (bD.trans (b6.mono bD.size))).1,(HOk2.out.below (bD.trans (b6.mono bD.size))).1⟩;clear x6 y6 b5 b6 bD eD hwd hgd HAj HAk HOj HOk2 HS1;obtain ⟨h4,h5⟩:=HF.out.1;obtain ⟨h6,h7,h8⟩:=HF.out.2;have HB5:=wTr HB1 h6;have HSj:=hide h7;have HSk:=hide h8;have HX4:=hide h4;have HX5:=hide h5;have s4:=h4.sk;have s5:=h5.sk;have p4:=run_ldP h4.past;have p5:=run_ldP h5.past
      clear h4 h5 h6 h7 h8 HF;obtain ⟨f1,f2⟩:=str_facts q.s r.s;by_cases hlt0:cmpS q.s r.s < 0
      ·rw [decide_eq_true hlt0] at f1;rw [decide_eq_false (show ¬ cmpS q.s r.s=0 by omega)] at f2;have HL:=hide (HLt.out _ (.inl ⟨by omega,rfl⟩) hlt0);clear hlt0;go_wp2_with fail;go_roundw
       case rel=>exact ⟨k+1,by omega,by simp,HK.out.snoc HOk.out HL.out,HB5.out⟩
       case measure=>simp [intOf];omega
      ·rw [decide_eq_false hlt0] at f1;by_cases he0:cmpS q.s r.s=0
       ·rw [decide_eq_true he0] at f2;have HE0:=hide he0;clear hlt0 he0;go_wp2_with fail;refine (refCompare_any q.p r.p _ HSj.out HSk.out).mono ?_;rintro e w7 ⟨z,rfl,hz,b7⟩;have HZ:Hid (CmpR q r z):=.inr ⟨HE0.out,cmpV_of hz⟩;have HB7:=wTr HB5 b7;clear hz b7 p4 p5 s4 s5;by_cases hz0:(0:Int) <= z
        ·have HN:=hide (HNo.out z HZ.out (by omega));go_wp2_with fail;go_ret;exact ⟨_,rfl,BIf.no HN.out,HB7.out⟩
        ·have HL:=hide (HLt.out z HZ.out (by omega));go_wp2_with fail;go_roundw
         case rel=>exact ⟨k+1,by omega,by simp,HK.out.snoc HOk.out HL.out,HB7.out⟩
         case measure=>simp [intOf];omega
       ·rw [decide_eq_false he0] at f2;have HN:=hide (HNo.out _ (.inl ⟨he0,rfl⟩) (by omega));clear hlt0 he0;go_wp2_with fail;go_ret;exact ⟨_,rfl,BIf.no HN.out,HB5.out⟩
  ·obtain rfl:k=n:=by omega
   go_wp2_with fail;go_ret;exact ⟨_,rfl,BIf.yes HK.out,HB.out⟩
end
section
open Go.RowKit
attribute [local go_sem ↓] ldP_eq stP_eq ldRe_eq stRe_eq
attribute [local go_sem] cells_PV PC_size cells_ReV ReC_size zero_ReC
end
section
open Go.RowKit Go.Maps Go.Sort
attribute [local go_sem ↓] ldP_eq stP_eq ldRe_eq stRe_eq
attribute [local go_sem] cells_ReV ReC_size zero_ReC
def SoOf (L F:List Rc):Prop:=Srt ck (plR F)/\(∀ y,y∈plR F↔y∈plR L)/\∀ r∈F,RecOk r
def OrA (w w':World) (x:Ending) (L:List Rc):Prop:=∃ (h:Hs) (F:List Rc),x = .returned (HsV h)/\RcT w' h.o h.n h.c F/\h.n <= L.length/\(∀ ad,h.o=some ad -> w.heap.size <= ad.block)/\Below w.heap.size w w'/\SoOf L F
def ZOf (A B:List Rc) (i j na nb:Nat) (z:Int):Prop:=(i=na/\z=1)∨(i < na/\j=nb/\z = -1)∨(i < na/\j < nb/\z=ck (rck (A.getD i rc0)) (rck (B.getD j rc0)))
section
variable {X Y D : List Rp} {A B : List Rc} {i j : Nat} {z : Int}
end
structure UO (w2 wr:World) (A B:List Rc) (i j:Nat) (h:Hs) (D:List Rc):Prop where
 own:OwnRc w2.heap.size w2 wr h D
 okd:∀ r∈D,RecOk r
 mg:Mg ck (plR A) (plR B) (plR D) (plR (A.drop i)) (plR (B.drop j))
 num:h.n <= i+j
def UOv (w2:World) (A B:List Rc) (na nb:Nat) (v vi vj:Value) (wr:World):Prop:=∃ (i j:Nat) (h:Hs) (D:List Rc),i <= na/\j <= nb/\v = .slice h.o h.n h.c/\vi = .int .i64 (i:Int)/\vj = .int .i64 (j:Int)/\Hid (UO w2 wr A B i j h D)
def UrA (w w':World) (x:Ending) (L:List Rc) (n:Nat) (M:List Rc) (m:Nat):Prop:=(OkR L n/\OkR M m/\∃ (h:Hs) (F:List Rc),x = .returned (.tuple #[HsV h,.int .i64 0])/\RcT w' h.o h.n h.c F/\(∀ ad,h.o=some ad -> w.heap.size <= ad.block)/\h.n <= n+m/\Below w.heap.size w w'/\UnOf L M F)∨(¬ (OkR L n/\OkR M m)/\x = .returned (.tuple #[.slice none 0 0,.int .i64 1])/\Below w.heap.size w w')
end
section
open Go.RowKit
attribute [local go_sem ↓] ldP_eq stP_eq ldFa_eq stFa_eq
attribute [local go_sem] cells_PV PC_size cells_FaV FaC_size
def ChkF (f:Fc) (x:Int):Prop:=(x=0/\FormF f)∨(x=1/\¬ FormF f)
def ChkB (f g:Fc) (x:Int):Prop:=(x=0/\FormF f/\FormF g)∨(x=1/\¬ (FormF f/\FormF g))
end
end Go.Proofs.YtaphmhbmhcahaaaGreat
namespace Go.Proofs.YtaphmhbmhcahaaaGreat.K
section


def Chunked {α : Type} (le : α -> α -> Prop) (w:Nat) (L:List α):Prop:=∀ q,((L.drop (q * w)).take w).Pairwise le
def mrg {α : Type} (le : α -> α -> Bool) (L:List α) (i mid j en:Nat):List α := List.merge ((L.drop i).take (mid - i)) ((L.drop j).take (en - j)) le
structure Pass {α : Type} (le : α -> α -> Bool) (L M:List α) (n q f t:Nat):Prop where
 hf:f=2 * t * q
 hl:M.length=min f n
 hp:M.Perm (L.take f)
 hc:Chunked (fun x y=>le x y=true) (2 * q) M
end
section
open Go.RowKit
attribute [local go_sem ↓] ld28_eq st28_eq ld26_eq
attribute [local go_sem] zero_EC cells_EV EC_size
def leE (x y:En):Bool := !ahead y x
end
section
open Go.RowKit
attribute [local go_sem ↓] ld28_eq st28_eq
attribute [local go_sem] zero_EC cells_EV EC_size
attribute [local go_sem] fold_EC
def mk22 (a b:Value):Sem Value:=Instr.makeSlice 22 a b
theorem mk22_eq (a b:Value):Instr.makeSlice 22 a b=mk22 a b:=rfl
attribute [local go_sem ↓] mk22_eq
def InOrder (L R:List En):Prop:=R.Perm L/\R.Pairwise (fun x y=>leE x y=true)
def GivesS (w w':World) (e:Ending) (L:List En):Prop:=∃ R,InOrder L R/\GivesE w w' e R
end
section
open Go.RowKit

instance:DecidableEq En:=fun a b =>
 decidable_of_iff (a.rep=b.rep/\a.num=b.num/\a.sku=b.sku/\a.qty=b.qty) ⟨fun ⟨h1,h2,h3,h4⟩=>by cases a;cases b;simp_all,fun h=>by subst h;exact ⟨rfl,rfl,rfl,rfl⟩⟩
instance:Inhabited En:=⟨en0⟩
def sameDot (x y:En):Bool:=x.rep == y.rep && x.num == y.num
theorem ahead_of {x y:En} (h:leE x y=true) (hs:sameDot y x=false):ahead x y=true:=by
 simp [leE,ahead,sameDot] at *;omega
theorem ahead_trans {x y z:En} (h:ahead x y=true) (h2:ahead y z=true):ahead x z=true:=by
 simp [ahead] at *;omega
theorem ahead_irr (x:En):ahead x x=false:=by simp [ahead]
theorem ahead_asymm {x y:En} (h:ahead x y=true):ahead y x=false:=by
 simp [ahead] at *;omega
theorem ahead_same {x y:En} (h:ahead x y=true):sameDot x y=false:=by
 simp [ahead,sameDot] at *;omega
theorem same_symm {x y:En}:sameDot x y=sameDot y x:=by
 simp [sameDot,Bool.beq_comm]
def Clash (L:List En):Prop:=∃ x,x∈L/\∃ y,y∈L/\sameDot x y=true/\x≠y
def Asc (R:List En):Prop:=R.Pairwise (fun x y=>ahead x y=true)
def Settled (L R:List En) (e:Int):Prop:=(Clash L/\R=[]/\e=10)∨(¬ Clash L/\e=0/\Asc R/\∀ x,x∈R↔x∈L)
theorem asc_unique:∀ {R R':List En},Asc R -> Asc R' -> (∀ x,x∈R↔x∈R') -> R=R'
 | [],[],_,_,_=>rfl
 | [],b :: _,_,_,h=>absurd ((h b).2 (List.mem_cons_self ..)) (by simp)
 | a :: _,[],_,_,h=>absurd ((h a).1 (List.mem_cons_self ..)) (by simp)
 | a :: R,b :: R',h1,h2,h=>by
  obtain ⟨a1,a2⟩:=List.pairwise_cons.1 h1;obtain ⟨b1,b2⟩:=List.pairwise_cons.1 h2
  have e:a=b:=by
   rcases List.mem_cons.1 ((h a).1 (List.mem_cons_self ..)) with e | e
   ·exact e
   ·rcases List.mem_cons.1 ((h b).2 (List.mem_cons_self ..)) with e' | e'
    ·exact e'.symm
    ·have:=ahead_asymm (a1 b e');rw [b1 a e] at this;cases this
  subst e;rw [asc_unique a2 b2 (fun x=>?_)];have hx:=h x;simp only [List.mem_cons] at hx;constructor
  ·intro hm;rcases hx.1 (Or.inr hm) with e | e
   ·subst e;have:=a1 x hm;rw [ahead_irr] at this;cases this
   ·exact e
  ·intro hm;rcases hx.2 (Or.inr hm) with e | e
   ·subst e;have:=b1 x hm;rw [ahead_irr] at this;cases this
   ·exact e
theorem asc_noclash {R L:List En} (h:Asc R) (hm:∀ x,x∈R↔x∈L):¬ Clash L:=by
 rintro ⟨x,hx,y,hy,hs,hne⟩;have hx:=(hm x).2 hx;have hy:=(hm y).2 hy;clear hm
 induction R with
 | nil=>simp at hx
 | cons a R ih =>
  obtain ⟨a1,a2⟩:=List.pairwise_cons.1 h;rcases List.mem_cons.1 hx with e | e
  ·subst e;rcases List.mem_cons.1 hy with e | e
   ·exact hne e.symm
   ·have:=ahead_same (a1 y e);rw [hs] at this;cases this
  ·rcases List.mem_cons.1 hy with e' | e'
   ·subst e';have:=ahead_same (a1 x e);rw [same_symm,hs] at this;cases this
   ·exact ih a2 e e'
theorem Clash.perm {L R:List En} (h:Clash L) (hm:∀ x,x∈L↔x∈R):Clash R:=by
 obtain ⟨x,hx,y,hy,r⟩:=h;exact ⟨x,(hm x).1 hx,y,(hm y).1 hy,r⟩
theorem Settled.perm {L L' R:List En} {e:Int} (h:Settled L R e) (hm:∀ x,x∈L↔x∈L'):Settled L' R e:=by
 rcases h with ⟨c,r,e1⟩ | ⟨c,e1,a,m⟩
 ·exact Or.inl ⟨c.perm hm,r,e1⟩
 ·exact Or.inr ⟨fun c'=>c (c'.perm (fun x=>(hm x).symm)),e1,a,fun x=>(m x).trans (hm x)⟩

def OnceInv (L:List En) (k:Nat) (acc:List En):Prop:=Asc acc/\∀ x,x∈acc↔x∈L.take k
theorem le_at {L:List En} (hL:L.Pairwise (fun x y=>leE x y=true)) (i j:Nat) (hij:i < j) (hj:j < L.length):leE (L.getD i en0) (L.getD j en0)=true:=by
 have:=List.pairwise_iff_getElem.1 hL i j (by omega) hj hij;simpa [List.getD,hj,show i < L.length by omega] using this
theorem getD_mem (L:List En) (k:Nat) (h:k < L.length):L.getD k en0∈L:=by
 have:L.getD k en0=L[k]:=by simp [List.getD,h]
 rw [this];exact List.getElem_mem _
end
end Go.Proofs.YtaphmhbmhcahaaaGreat.K
namespace Go.Proofs
open Go.Shelf
def Tryz.sortEn_ren:Go.Shelf.Ren:=⟨fun | 6=>147 | 15=>169 | 14=>177 | 28=>198 | 29=>199 | 20=>201 | 21=>202 | 22=>203 | 23=>204 | 24=>205 | 25=>206 | 26=>207 | 27=>208 | 46=>230 | 47=>223 | 48=>224 | 49=>231 | 50=>232 | 57=>249 | n=>n,fun | 22=>22 | 24=>66 | 25=>169 | 3=>3 | 39=>205 | 0=>0 | 53=>229 | 55=>231 | 4=>4 | 46=>223 | 45=>222 | 50=>206 | 5=>5 | 9=>9 | 66=>246 | 70=>250 | 76=>262 | 77=>211 | n=>n,fun | n=>n⟩
theorem Tryz.sortEn:Go.Proofs.SlLaysF0.n6 Tryz.prog Tryz.sortEn_ren:={
 mixed:=by kernel_rfl
 f6:=⟨Tryz.f147.name,by decide,Tryz.func147.trans (congrArg some (by kernel_rfl))⟩
 f14:=⟨Tryz.f177.name,by decide,Tryz.func177.trans (congrArg some (by kernel_rfl))⟩
 f15:=Tryz.func169.trans (congrArg some (by kernel_rfl))
 f20:=⟨Tryz.f201.name,by decide,Tryz.func201.trans (congrArg some (by kernel_rfl))⟩
 f21:=⟨Tryz.f202.name,by decide,Tryz.func202.trans (congrArg some (by kernel_rfl))⟩
 f22:=⟨Tryz.f203.name,by decide,Tryz.func203.trans (congrArg some (by kernel_rfl))⟩
 f23:=⟨Tryz.f204.name,by decide,Tryz.func204.trans (congrArg some (by kernel_rfl))⟩
 f24:=⟨Tryz.f205.name,by decide,Tryz.func205.trans (congrArg some (by kernel_rfl))⟩
 f25:=⟨Tryz.f206.name,by decide,Tryz.func206.trans (congrArg some (by kernel_rfl))⟩
 f26:=⟨Tryz.f207.name,by decide,Tryz.func207.trans (congrArg some (by kernel_rfl))⟩
 f27:=⟨Tryz.f208.name,by decide,Tryz.func208.trans (congrArg some (by kernel_rfl))⟩
 f28:=Tryz.func198.trans (congrArg some (by kernel_rfl))
 f29:=Tryz.func199.trans (congrArg some (by kernel_rfl))
 f46:=⟨Tryz.f230.name,by decide,Tryz.func230.trans (congrArg some (by kernel_rfl))⟩
 f47:=Tryz.func223.trans (congrArg some (by kernel_rfl))
 f48:=Tryz.func224.trans (congrArg some (by kernel_rfl))
 f49:=⟨Tryz.f231.name,by decide,Tryz.func231.trans (congrArg some (by kernel_rfl))⟩
 f50:=⟨Tryz.f232.name,by decide,Tryz.func232.trans (congrArg some (by kernel_rfl))⟩
 f57:=⟨Tryz.f249.name,by decide,Tryz.func249.trans (congrArg some (by kernel_rfl))⟩
 t0:=Tryz.underlying0
 a0:=Tryz.isAgg0
 z0:=Tryz.sizeOf0
 v0:=Tryz.zeroValue0
 t3:=Tryz.underlying3
 a3:=Tryz.isAgg3
 z3:=Tryz.sizeOf3
 v3:=Tryz.zeroValue3
 t4:=Tryz.underlying4
 a4:=Tryz.isAgg4
 z4:=Tryz.sizeOf4
 v4:=Tryz.zeroValue4
 t5:=Tryz.underlying5
 a5:=Tryz.isAgg5
 z5:=Tryz.sizeOf5
 v5:=Tryz.zeroValue5
 t9:=Tryz.underlying9
 a9:=Tryz.isAgg9
 z9:=Tryz.sizeOf9
 v9:=Tryz.zeroValue9
 t22:=Tryz.underlying22
 a22:=Tryz.isAgg22
 z22:=Tryz.sizeOf22
 v22:=Tryz.zeroValue22
 t25:=Tryz.underlying169
 a25:=Tryz.isAgg169
 z25:=Tryz.sizeOf169
 v25:=Tryz.zeroValue169
 t39:=Tryz.underlying205
 a39:=Tryz.isAgg205
 z39:=Tryz.sizeOf205
 v39:=Tryz.zeroValue205
 t45:=Tryz.underlying222
 a45:=Tryz.isAgg222
 z45:=Tryz.sizeOf222
 v45:=Tryz.zeroValue222
 t46:=Tryz.underlying223
 a46:=Tryz.isAgg223
 z46:=Tryz.sizeOf223
 v46:=Tryz.zeroValue223
 t50:=Tryz.underlying206
 a50:=Tryz.isAgg206
 z50:=Tryz.sizeOf206
 v50:=Tryz.zeroValue206
 t53:=Tryz.underlying229
 a53:=Tryz.isAgg229
 z53:=Tryz.sizeOf229
 v53:=Tryz.zeroValue229
 t55:=Tryz.underlying231
 a55:=Tryz.isAgg231
 z55:=Tryz.sizeOf231
 v55:=Tryz.zeroValue231
 t66:=Tryz.underlying246
 a66:=Tryz.isAgg246
 z66:=Tryz.sizeOf246
 v66:=Tryz.zeroValue246
 t70:=Tryz.underlying250
 a70:=Tryz.isAgg250
 z70:=Tryz.sizeOf250
 v70:=Tryz.zeroValue250
 t76:=Tryz.underlying262
 a76:=Tryz.isAgg262
 z76:=Tryz.sizeOf262
 v76:=Tryz.zeroValue262
 t77:=Tryz.underlying211
 a77:=Tryz.isAgg211
 z77:=Tryz.sizeOf211
 v77:=Tryz.zeroValue211 }
end Go.Proofs
namespace Go.Proofs.YtaphmhbmhcahaaaGreat.K
section
open Go.RowKit Go.Sort

def encE (e:En):List Value:=(EC e).toList
theorem encE_len (e:En):(encE e).length=4:=rfl
structure MR (W:World) (ad:Addr) (d:Array En):Prop where
 hk:HoldsK encE 4 W ad.block 0 d
 lt:ad.block < W.heap.size
 ha:ad=⟨ad.block,0,none⟩
theorem MR.at {W:World} {ad:Addr} {d:Array En} (M:MR W ad d) (i:Nat) (hi:i < d.size):EnAt W (ad.add (i * 4)) d[i]! := by
 have h:∀ c,c < 4 -> W.cell? ⟨ad.block,i * 4+c,none⟩=some (encE d[i]!)[c]! := fun c hc=>by
  have:=(M.hk.cell hi hc).1;rwa [Nat.zero_add] at this
 rw [M.ha,Addr.add_lit,Nat.zero_add];exact ⟨h 0 (by omega),by rw [Addr.add_lit];exact h 1 (by omega),by rw [Addr.add_lit];exact h 2 (by omega),by rw [Addr.add_lit];exact h 3 (by omega)⟩
theorem MR.on {W W':World} {ad:Addr} {d:Array En} (M:MR W ad d) (hb:Below W.heap.size W W'):MR W' ad d:=
 ⟨fun j hj=>by rw [hb.cell (p:=⟨ad.block,0+j,none⟩) M.lt,hb.frozen (p:=⟨ad.block,0+j,none⟩) M.lt];exact M.hk j hj,Nat.lt_of_lt_of_le M.lt hb.size,M.ha⟩
theorem flat_set (d:Array En) (i:Nat) (e:En) (hi:i < d.size):setMany (flatK encE 4 d) (i * 4) (encE e)=flatK encE 4 (d.setIfInBounds i e):=by
 refine ext_get! (by simp) fun t ht=>?_
 have ht':t < d.size * 4:=by simpa using ht
 rw [get_setMany _ _ _ t (by simpa using ht'),get_flatK _ _ _ t ht',get_flatK _ _ _ t (by simpa using ht'),encE_len];by_cases a:t / 4=i
 ·rw [if_pos ((blk_iff 4 i t (by omega)).2 a),a,getElem!_set_same d i e hi,show t - i * 4=t % 4 by omega]
 ·rw [if_neg (fun h=>a ((blk_iff 4 i t (by omega)).1 h)),getElem!_set_other d i _ e a]
theorem below_put (W:World) (g:Nat) (F:Array Value):Below g W (putRow id W g 0 F):=Lib.below_putRow (q:=0) (Below.refl g W) (Nat.le_refl _)
theorem MR.setCells {W:World} {ad:Addr} {d:Array En} (M:MR W ad d) (i:Nat) (e:En) (hi:i < d.size) :
  W.setCells ad.block (i * 4) (encE e)=putRowK encE 4 W ad.block 0 (d.setIfInBounds i e):=by
 have h1:=putRowK_self encE 4 W ad.block 0 d M.hk;have h2:=setCells_putRow W ad.block 0 (encE e) (i * 4) (flatK encE 4 d) (by rw [encE_len,size_flatK];have:=Nat.mul_le_mul_right 4 (show i+1 <= d.size from hi);omega);unfold putRowK at h1;rw [h1,flat_set d i e hi,Nat.zero_add] at h2;exact h2
theorem MR.store {W:World} {ad:Addr} {d:Array En} (M:MR W ad d) (i:Nat) (e:En) (hi:i < d.size) :
  ∃ W':World,(st28 (.pointer (some (ad.add (i * 4)))) (EV e)).run Tryz.prog W = .ok () W'/\MR W' ad (d.setIfInBounds i e)/\Below ad.block W W'/\W'.heap.size=W.heap.size:=by
 have hs:=stores_of_holds Tryz.prog (W:=W) (blk:=ad.block) (off:=0) (F:=flatK encE 4 d) M.hk (i * 4) (encE e) (by rw [encE_len,size_flatK];have:=Nat.mul_le_mul_right 4 (show i+1 <= d.size from hi);omega) (EC_one e);rw [Nat.zero_add,M.setCells i e hi] at hs;refine ⟨_,?_,⟨holdsK_putRowK encE 4 W ad.block 0 d _ M.hk (by simp),by show ad.block < (putRow id W ad.block 0 _).heap.size;rw [size_putRow];exact M.lt,M.ha⟩,below_put W ad.block _,size_putRow _ _ _ _ _⟩;have ha:=M.ha;rw [ha,Addr.add_lit,Nat.zero_add];unfold st28
 cases hq:Tryz.prog.info? 66 with
 | none=>have:=size28;simp [hq] at this
 | some x =>
  have hz:x.size=4:=by have:=size28;simpa [hq] using this
  have hs':(storeCells ⟨ad.block,i * 4,none⟩ (EC e).toList 0).run Tryz.prog W = .ok () (putRowK encE 4 W ad.block 0 (d.setIfInBounds i e)):=hs;simp only [Instr.storeAt,Instr.sureAddr,Sem.run_bind,Sem.run_pure,Result.andThen,storeVar,sizeOf,typeInfo,cells_EV,EC_size];simp [hs',hq,hz]
theorem flat_lay (d:Array En):∀ (xs:List En) (i:Nat),i+xs.length <= d.size -> setMany (flatK encE 4 d) (i * 4) (xs.map encE).flatten=flatK encE 4 (Lib.lay d i xs)
 | [],_,_=>rfl
 | x :: r,i,h=>by
  have hi:i < d.size:=by simp at h;omega
  have key:∀ (F:Array Value) (s:Nat) (a b:List Value),setMany F s (a++b)=setMany (setMany F s a) (s+a.length) b:=by
   intro F s a
   induction a generalizing F s with
   | nil=>intro b;rfl
   | cons v a ih=>intro b;simp only [List.cons_append,setMany,List.length_cons];rw [ih,show s+1+a.length=s+(a.length+1) by omega]
  rw [List.map_cons,List.flatten_cons,key,flat_set d i x hi,encE_len,show i * 4+4=(i+1) * 4 by omega];exact flat_lay (d.setIfInBounds i x) r (i+1) (by simp at h ⊢;omega)
theorem zero29 (w:World):(zeroValue 66).run Tryz.prog w = .ok (EV en0) w:=Tryz.zeroValue66 w
theorem zeros (n:Nat):(Builtin.zeroCells (EC en0) n).toList=((List.replicate n en0).map encE).flatten:=by
 show _=ecs (List.replicate n en0)
 apply List.ext_getElem?;intro t;by_cases ht:t < n * 4
 ·have h2:=ecs_at (List.replicate n en0) (t / 4) (t % 4) (by simp;omega) (by omega);rw [show t / 4 * 4+t % 4=t by omega] at h2
  have hg:(List.replicate n en0).getD (t / 4) en0=en0:=by simp [List.getD,show t / 4 < n by omega]
  rw [h2,hg]
  have h1:(Builtin.zeroCells (EC en0) n).toList[t]? = some ((EC en0)[t % 4]!):=by simp [Builtin.zeroCells,EC_size,ht]
  rw [h1]
  have:t % 4=0∨t % 4=1∨t % 4=2∨t % 4=3:=by omega
  rcases this with h | h | h | h <;> rw [h] <;> rfl
 ·rw [List.getElem?_eq_none (by simp [Builtin.zeroCells,EC_size];omega),List.getElem?_eq_none (by rw [ecs_length];simp;omega)]
theorem lay_size (d:Array En):∀ (xs:List En) (k:Nat),(Lib.lay d k xs).size=d.size:=by
 intro xs
 induction xs generalizing d with
 | nil=>intro k;rfl
 | cons x r ih=>intro k;rw [Lib.lay,ih];simp
theorem MR.clear {W:World} {ad:Addr} {d:Array En} (M:MR W ad d) (kk:Nat) (hk:kk < d.size) (c:Nat) :
  ∃ (W':World) (d':Array En),(∀ ty,(Builtin.clear_ #[22] ty #[.slice (some (ad.add (kk * 4))) (d.size - kk) c]).run Tryz.prog W = .ok (.tuple #[]) W')/\MR W' ad d'/\d'.size=d.size/\(∀ j,j < kk -> d'[j]! = d[j]!)/\Below ad.block W W'/\W'.heap.size=W.heap.size:=by
 obtain ⟨m,hm⟩:∃ m,d.size - kk=m:=⟨_,rfl⟩;have h1:=putRowK_self encE 4 W ad.block 0 d M.hk
 have hlen:(((List.replicate m en0).map encE).flatten).length=m * 4:=by
  have:=ecs_length (List.replicate m en0);rwa [List.length_replicate] at this
 have hs:=stores_of_holds Tryz.prog (W:=W) (blk:=ad.block) (off:=0) (F:=flatK encE 4 d) M.hk (kk * 4) ((List.replicate m en0).map encE).flatten (by rw [hlen,size_flatK];omega) (by
  intro v hv;obtain ⟨l,hl,hv⟩:=List.mem_flatten.1 hv;obtain ⟨e,_,rfl⟩:=List.mem_map.1 hl
  exact EC_one e v hv)
 have h2:=setCells_putRow W ad.block 0 ((List.replicate m en0).map encE).flatten (kk * 4) (flatK encE 4 d) (by rw [hlen,size_flatK];omega);unfold putRowK at h1;rw [h1,flat_lay d (List.replicate m en0) kk (by simp;omega),Nat.zero_add] at h2;rw [Nat.zero_add,h2] at hs;refine ⟨_,Lib.lay d kk (List.replicate m en0),fun ty=>?_,⟨holdsK_putRowK encE 4 W ad.block 0 d _ M.hk (lay_size _ _ _),by show ad.block < (putRow id W ad.block 0 _).heap.size;rw [size_putRow];exact M.lt,M.ha⟩,lay_size _ _ _,fun j hj=>?_,below_put W ad.block _,size_putRow _ _ _ _ _⟩
 ·have ha:=M.ha;rw [ha,Addr.add_lit,Nat.zero_add,hm];obtain ⟨m',rfl⟩:∃ m',m=m'+1:=⟨m - 1,by omega⟩;have hz:=zero29 W;simp [Builtin.clear_,run_underlying Tryz.underlying22,hz];rw [cells_EV,zeros,hs];rfl
 ·have:=Lib.lay_get? (List.replicate m en0) d kk j (by simp;omega);rw [if_neg (by omega)] at this;rw [getElem!_def,getElem!_def,this]
def Grew (w w':World):Prop:=∃ q os,w'=grow (w.drewN q) os
theorem grew_by (w:World) (a b c:Obj):Grew w (((w.alloc a).alloc b).drew.alloc c):=by
 refine ⟨1,#[a]++#[b]++#[c],?_⟩;rw [alloc_eq_grow ((w.alloc a).alloc b).drew c,alloc_eq_grow (w.alloc a) b,alloc_eq_grow w a,grow_grow,drew_grow,grow_grow];rfl
theorem byDot_gr (x y:En) (w:World):Calls Tryz.prog 122 #[enV x,enV y] w fun e w'=>e = .returned (.int .i64 (byD x y))/\Grew w w':=by
 have T0:=hide (Two.start w x y);obtain ⟨w0,Hw0⟩:∃ w0,Hid ((w.alloc (.cells #[.int .i64 x.rep,.int .i64 x.num,.string x.sku,.int .i64 x.qty] 66)).alloc (.cells #[.int .i64 y.rep,.int .i64 y.num,.string y.sku,.int .i64 y.qty] 66)=w0):=⟨_,rfl⟩;rw [Hw0.out] at T0;have c1:=T0.out.a0;have c2:=T0.out.a1;have c3:=T0.out.b0;have c4:=T0.out.b1;obtain ⟨p,Hp⟩:∃ p,Hid (cmpI x.rep y.rep=p):=⟨_,rfl⟩;obtain ⟨q,Hq⟩:∃ q,Hid (cmpI x.num y.num=q):=⟨_,rfl⟩
 have C1:Hid (∀ W,Calls Tryz.prog 163 #[.int .i64 x.rep,.int .i64 y.rep] W fun e w'=>e = .returned (.int .i64 p)/\w'=W):=fun W=>by rw [<- Hp.out];exact cmp_any _ _ W
 have C2:Hid (∀ W,Calls Tryz.prog 163 #[.int .i64 x.num,.int .i64 y.num] W fun e w'=>e = .returned (.int .i64 q)/\w'=W):=fun W=>by rw [<- Hq.out];exact cmp_any _ _ W
 have HF:Hid (or2 p q=byD x y):=by show _=_;unfold byD;rw [Hp.out,Hq.out]
 have T1:Hid (Two w (w0.drew.alloc (.cells #[.int .i64 p,.int .i64 q] 3)) x y):=(T0.out.on (below_drew (Below.refl _ _))).on (below_new _ _);have HO:=hide (or_new p q w0.drew w0.heap.size rfl)
 have HG:Hid (Grew w (w0.drew.alloc (.cells #[.int .i64 p,.int .i64 q] 3))):=by rw [<- Hw0.out];exact grew_by _ _ _ _
 obtain ⟨r,m,s,q⟩:=x;obtain ⟨r',m',s',q'⟩:=y;go_enter Tryz.func122,Tryz.ntmps122;go_wp2_with fail;rw [Hw0.out]
 first | (go_region_held (fun W=>W.cell? ⟨w.heap.size,0,none⟩=some (.int .i64 r)/\W.cell? ⟨w.heap.size,1,none⟩=some (.int .i64 m)/\W.cell? ⟨w.heap.size+1,0,none⟩=some (.int .i64 r')/\W.cell? ⟨w.heap.size+1,1,none⟩=some (.int .i64 m')) (first | exact ⟨T1.out.a0,T1.out.a1,T1.out.b0,T1.out.b1⟩ | go_keep) (first | (go_at_call_of 163 r;refine (C1.out _).mono ?_;rintro e w' ⟨rfl,rfl⟩) | (go_at_call_of 163 m;refine (C2.out _).mono ?_;rintro e w' ⟨rfl,rfl⟩) | (go_at_call 162;refine HO.out.mono ?_;rintro e w' ⟨rfl,rfl⟩))) | fail
 all_goals (go_wp2_with fail)
 all_goals go_ret
 all_goals exact ⟨ret_int HF.out,HG.out⟩
theorem byD_lt (x y:En):ltOf byD x y=ahead x y:=by
 unfold ltOf byD or2 cmpI ahead;by_cases h1:x.rep < y.rep
 ·simp [h1]
 ·by_cases h2:y.rep < x.rep
  ·have:¬ x.rep=y.rep:=by omega
   simp [h1,h2,this]
  ·have e:x.rep=y.rep:=by omega
   by_cases h3:x.num < y.num
   ·simp [e,h3]
   ·by_cases h4:y.num < x.num <;> simp [e,h3,h4]
theorem byD_swo:SWO (ltOf byD) where
 irrefl x:=by rw [byD_lt];exact ahead_irr x
 trans x y z h1 h2:=by rw [byD_lt] at *;exact ahead_trans h1 h2
 ntrans x y z h1 h2:=by rw [byD_lt] at *;simp [ahead] at *;omega
theorem cmpLays (blk size:Nat) (w:World):CmpLays Tryz.prog 122 #[] encE 4 byD blk 0 size w:=
 fun _ _ _ _ x y=>byDot_gr x y _
theorem sortFunc_any (ad:Addr) (cap n:Nat) (d:Array En) (w:World) (M:MR w ad d) (hn:d.size=n) (hb:n <= 3518437208883) :
  Calls Tryz.prog 147 #[.slice (some ad) n cap,.func (.func 122) #[] #[]] w fun e w'=>e = .returned (.tuple #[])/\∃ d',d'.toList.Perm d.toList/\d'.toList.Pairwise (fun x y=>leE x y=true)/\MR w' ad d'/\Below ad.block w w':=by
 subst hn;have eg:∀ args w,(callFunc 122 args).run Tryz.prog w = .ok (.enter 122 args) w:=enters_of Tryz.func122 (by kernel_rfl) rfl;have h:=AnyQ.slices_SortFunc Tryz.sortEn 4 Tryz.isAgg66 Tryz.sizeOf66 encE (fun _=>rfl) (fun x v hv=>EC_one x v hv) byD byD_swo 122 #[] ad.block 0 cap d w eg (cmpLays ad.block d.size w) M.hk M.lt (by omega);rw [<- M.ha] at h;refine Calls.mono h ?_;rintro e w' ⟨rfl,d',m,os,⟨hs,_,hp⟩,hsr,rfl⟩;refine ⟨rfl,d',?_,?_,⟨holdsK_sortWorldK_c encE 4 w ad.block 0 d d' m os M.hk M.lt hs,?_,M.ha⟩,?_⟩
 ·have e1:d'.extract 0 d.size=d':=by rw [<- hs];simp
  have e2:d.extract 0 d.size=d:=by simp
  rwa [e1,e2] at hp
 ·rw [List.pairwise_iff_getElem];intro i j hi hj hij;have:=hsr i j (Nat.zero_le _) hij (by rw [<- hs];simpa using hj);rw [byD_lt] at this;rw [getElem!_pos d' j (by simpa using hj),getElem!_pos d' i (by simpa using hi)] at this;simp only [Array.getElem_toList];unfold leE;rw [this];rfl
 ·have:=M.lt
  show ad.block < (grow (putRow id (Sort.ahead w m) ad.block 0 (flatK encE 4 d')) os).heap.size
  show ad.block < ((putRow id (Sort.ahead w m) ad.block 0 (flatK encE 4 d')).heap++os).size
  rw [Array.size_append,size_putRow]
  show ad.block < w.heap.size+os.size
  omega
 ·have h1:Below ad.block w (putRow id (Sort.ahead w m) ad.block 0 (flatK encE 4 d')):=Lib.below_putRow (Below.refl _ _) (Nat.le_refl _);refine h1.trans ?_
  have hsz:ad.block <= (putRow id (Sort.ahead w m) ad.block 0 (flatK encE 4 d')).heap.size:=by rw [size_putRow];exact Nat.le_of_lt M.lt
  show Below ad.block _ (grow (putRow id (Sort.ahead w m) ad.block 0 (flatK encE 4 d')) os)
  generalize putRow id (Sort.ahead w m) ad.block 0 (flatK encE 4 d')=V at hsz;exact ⟨rfl,rfl,rfl,by show _ <= (V.heap++os).size;rw [Array.size_append];omega,fun k hk=>by show (V.heap++os)[k]? = _;rw [Array.getElem?_append_left (by omega)]⟩
end
section
open Go.RowKit
attribute [local go_sem ↓] ld28_eq st28_eq ld26_eq
attribute [local go_sem] zero_EC cells_EV EC_size fold_EC
theorem run_eqD (x y:En) (w:World):(Op.equalIn 10000 43 (.agg (DC x)) (.agg (DC y))).run Tryz.prog w = .ok (sameDot x y) w:=by
 have u3:=Tryz.underlying3;have a3:=Tryz.isAgg3;have z3:=Tryz.sizeOf3
 have hS:Tryz.prog.underlying 43=some (.struct (Tryz.prog.fieldsOf 43)):=by kernel_rfl
 have hp:Tryz.prog.stoodInHeld 43=false:=by kernel_rfl
 obtain ⟨a,b,_,_⟩:=x;obtain ⟨c,d,_,_⟩:=y
 show (Op.equalIn 10000 43 (.agg #[.int .i64 a,.int .i64 b]) (.agg #[.int .i64 c,.int .i64 d])).run Tryz.prog w = .ok (a == c && b == d) w
 rw [show (10000:Nat)=9999+1 from rfl,run_equalIn_struct w 9999 43 _ _ hS hp];simp only [Program.fieldsOf,Tryz.underlying43];go_simp;by_cases h1:a=c <;> by_cases h2:b=d <;> simp [h1,h2]
attribute [local go_sem ↓] run_eq28 run_eqD
theorem eqE_iff (x y:En):eqE x y=true↔x=y:=by
 constructor
 ·intro h;obtain ⟨a,b,s,c⟩:=x;obtain ⟨a',b',s',c'⟩:=y;simp only [eqE,Bool.and_eq_true,beq_iff_eq] at h;obtain ⟨⟨⟨rfl,rfl⟩,h3⟩,rfl⟩:=h
  have:s=s':=by
   rw [ByteArray.toList_eq,ByteArray.toList_eq] at h3
   cases s;cases s';simp at h3;simp [h3]
  rw [this]
 ·rintro rfl;exact eqE_self _
def GivesT (w w':World) (e:Ending) (L:List En):Prop:=∃ ao n c R er,e = .returned (.tuple #[.slice ao n c,.int .i64 er])/\ESrc w' ao n c R/\Below w.heap.size w w'/\(∀ ad,ao=some ad -> w.heap.size <= ad.block)/\Settled L R er
end
end Go.Proofs.YtaphmhbmhcahaaaGreat.K
