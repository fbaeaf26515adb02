/- GKs BRr TUo TCk LPu LLtr LSrt LDd LShf -/
import Derived.Test.YtjeilkenjdnafaaGreatTk
import Derived.Test.YtjeilkenjdnafaaGreatDk24
import Derived.Laws.Cover1
import Derived.Test.YtjeilkenjdnafaaGreatDk22
import Derived.Deep.CutRange
import Derived.Deep.CutBlock
import Derived.Test.YtjeilkenjdnafaaGreatDk16
import Derived.Test.YtjeilkenjdnafaaGreatDk18
import Derived.Test.YtjeilkenjdnafaaGreatDk12
import Derived.Below
import Derived.Laws.MakeOwn
import Derived.Deep.LoopGhost
import Derived.Lib.SlicesCompact
import Derived.Shelf.SlSortCmp.WholeK
import Derived.Test.YtjeilkenjdnafaaGreatProg
set_option maxRecDepth 100000
set_option maxHeartbeats 3200000
namespace Go.Proofs.YtjeilkenjdnafaaGreat
section
open Go.RowKit
attribute [local go_sem ↓] ldP_eq stP_eq ldRe_eq stRe_eq
attribute [local go_sem] cells_PV PC_size cells_ReV ReC_size zero_ReC
theorem cmpV_of {P Q:Pst} {z:Int} (h:CmpV P Q z):CmpOf P Q z:=h
theorem two_recs (w:World) (q r:Rc) (g:Nat) (hg:w.heap.size=g) (ga gb:Nat) (h:(ga=g/\gb=g+1)∨(ga=g+1/\gb=g)) :
  ∃ w5,(stRe (.pointer (some ⟨ga,0,none⟩)) (.agg (ReC (mkR q)))).run Tryz.prog ((w.alloc (.cells (ReC re0) 83)).alloc (.cells (ReC re0) 83)) = .ok () w5/\Below w.heap.size w w5 /\
  ∃ w6,(stRe (.pointer (some ⟨gb,0,none⟩)) (.agg (ReC (mkR r)))).run Tryz.prog w5 = .ok () w6/\ReBox w6 ga (mkR q)/\ReBox w6 gb (mkR r)/\Below w.heap.size w w6:=by
 subst hg;have x1:=(ReBox_new w re0).below (below_new _ (.cells (ReC re0) 83));have x2:=ReBox_new (w.alloc (.cells (ReC re0) 83)) re0;rw [World.size_alloc] at x2;have b0:=(below_new w (.cells (ReC re0) 83)).trans ((below_new _ (.cells (ReC re0) 83)).mono (below_new w (.cells (ReC re0) 83)).size);rcases h with ⟨rfl,rfl⟩ | ⟨rfl,rfl⟩
 ·have y2:=(setRow_other _ _ _ _ (show w.heap.size+1≠w.heap.size by omega):(World.setRow _ w.heap.size (ReC (mkR q))).heap[w.heap.size+1]? = _).trans x2;refine ⟨_,run_stRe x1,below_setRow b0 (Nat.le_refl _),_,run_stRe y2,?_,ReBox.setRow y2,below_setRow (below_setRow b0 (Nat.le_refl _)) (by omega)⟩;exact (setRow_other _ _ _ _ (by omega)).trans (ReBox.setRow x1)
 ·have y1:=(setRow_other _ _ _ _ (show w.heap.size≠w.heap.size+1 by omega):(World.setRow _ (w.heap.size+1) (ReC (mkR q))).heap[w.heap.size]? = _).trans x1;refine ⟨_,run_stRe x2,below_setRow b0 (by omega),_,run_stRe y1,?_,ReBox.setRow y1,below_setRow (below_setRow b0 (by omega)) (Nat.le_refl _)⟩;exact (setRow_other _ _ _ _ (by omega)).trans (ReBox.setRow x2)
theorem cb_less:∀ x y:List UInt8,Op.bytesLess x y=decide (Lib.compareBytes x y < 0)/\(x == y)=decide (Lib.compareBytes x y=0)
 | [],[]=>by simp [Op.bytesLess,Lib.compareBytes]
 | [],_ :: _=>by simp [Op.bytesLess,Lib.compareBytes]
 | _ :: _,[]=>by simp [Op.bytesLess,Lib.compareBytes]
 | a :: x,b :: y=>by
  obtain ⟨h1,h2⟩:=cb_less x y;by_cases hab:a < b
  ·have hne:a≠b:=fun e=>by subst e;exact absurd hab (UInt8.lt_irrefl a)
   simp [Op.bytesLess,Lib.compareBytes,hab,hne]
  ·by_cases hba:b < a
   ·have hne:a≠b:=fun e=>by subst e;exact absurd hba (UInt8.lt_irrefl a)
    simp [Op.bytesLess,Lib.compareBytes,hab,hba,hne]
   ·have he:a=b:=UInt8.le_antisymm (UInt8.not_lt.1 hba) (UInt8.not_lt.1 hab);subst he
    have h3:(a :: x == a :: y)=(x == y):=by simp
    rw [h3,h2];simp only [Op.bytesLess,h1,Lib.compareBytes,if_neg hab];simp
theorem toL (s:ByteArray):s.toList=s.data.toList:=ByteArray.toList_eq s
theorem str_facts (a b:ByteArray):Op.bytesLess a.toList b.toList=decide (cmpS a b < 0)/\(a.toList == b.toList)=decide (cmpS a b=0):=by
 rw [toL,toL];exact cb_less _ _
theorem refRecords_any (ao:Option Addr) (n cap:Nat) (L:List Rc) (w:World) (hS:RcS w ao n cap L):Calls Tryz.prog 50 #[.slice ao n cap] w fun e w'=>GivB w w' e (OkR L n):=by
 have HS:=hide hS;have hn:=hS.big;clear hS;go_enter Tryz.func50,Tryz.ntmps50;go_wp2_with fail;go_loopw [3] (fun i wr=>∃ k:Nat,k <= n/\i = .int .i64 k/\Hid (OkR L k)/\Hid (Below w.heap.size w wr)) (fun i _=>n - (intOf i).toNat)
 case atStart=>exact ⟨0,Nat.zero_le _,rfl,okR_zero L,Below.refl _ _⟩
 case round =>
  obtain ⟨k,hk,rfl,HK,HB⟩:=hrel
  rename World=>wr
  by_cases hlt:k < n
  ·obtain ⟨ad,rfl,A0⟩:=(HS.out.below HB.out).at k hlt;have hld:=run_laRe A0;have HO:=hide ((HS.out.below HB.out).okAt k hlt);have HSr:=hide (HS.out.below HB.out);obtain ⟨r,Hr⟩:∃ r,Hid (L.getD k rc0=r):=⟨_,rfl⟩;rw [Hr.out] at hld HO;clear A0;have Hlt:=hide hlt;go_wp2_with fail;refine (refRecord_any r _ HO.out).mono ?_;rintro e w1 ⟨b,rfl,hb,b1⟩;have HB1:=wTr HB b1;have HS1:=hide (HSr.out.below b1);clear b1 hld HSr HO
   cases b with
   | false =>
    have HN:Hid (¬ OkR L n):=fun h=>by have h1:=(h k Hlt.out).1;rw [Hr.out] at h1;have:=hb.out.2 h1;cases this
    clear hb;go_wp2_with fail;go_ret;exact ⟨_,rfl,BIf.no HN.out,HB1.out⟩
   | true =>
    have HOk:Hid (RecOk (L.getD k rc0)):=by rw [Hr.out];exact hb.out.1 rfl
    clear hb;by_cases hk0:k=0
    ·have hk1:decide (0 < k)=false:=by rw [decide_eq_false_iff_not];omega
     have HK0:=hide hk0
     have hk2:¬ (0 < k):=by omega
     clear hk0;go_wp2_with fail;go_roundw
     case rel=>exact ⟨k+1,by omega,by simp,HK.out.snoc HOk.out (fun h=>absurd h (by have:=HK0.out;omega)),HB1.out⟩
     case measure=>simp [intOf];omega
    ·obtain ⟨j,Hj⟩:∃ j,Hid (k=j+1):=⟨k - 1,(show k=k - 1+1 by omega)⟩
     have hjn:j < n:=by have:=Hj.out;omega
     have hwj:IntKind.i64.wrap ((k:Int) - 1)=(j:Int):=by rw [IntKind.wrap_i64];have:=Hj.out;omega
     have hk1:decide (0 < k)=true:=by rw [decide_eq_true_iff];omega
     have hk2:0 < k:=by omega
     obtain ⟨ad',e',Aj⟩:=HS1.out.at j hjn;obtain rfl:=Option.some.inj e';obtain ⟨ad',e2',Ak⟩:=HS1.out.at k Hlt.out;obtain rfl:=Option.some.inj e2';have HOj:=hide (HS1.out.okAt j hjn);have HOk2:=hide (HS1.out.okAt k Hlt.out);obtain ⟨q,Hq⟩:∃ q,Hid (L.getD j rc0=q):=⟨_,rfl⟩;rw [Hq.out] at Aj HOj;rw [Hr.out] at Ak HOk2;have HAj:=hide Aj;have HAk:=hide Ak
     have HLt:Hid (∀ z,CmpR q r z -> z < 0 -> (0 < k -> LtR (L.getD (k - 1) rc0) (L.getD k rc0))):=fun z h1 h2 _=>by
      rw [show k - 1=j by have:=Hj.out;omega,Hr.out,Hq.out];exact ⟨z,h1,h2⟩
     have HNo:Hid (∀ z,CmpR q r z -> ¬ z < 0 -> ¬ OkR L n):=fun z h1 h2 h=>by
      have h3:=(h k Hlt.out).2 (by have:=Hj.out;omega);rw [show k - 1=j by have:=Hj.out;omega,Hr.out,Hq.out] at h3;obtain ⟨z2,h4,h5⟩:=h3;have:=h1.unique h4;omega
     clear Aj Ak e' e2' hk0;go_wp2_with fail;refine wp_region_held_drew (S:=fun v=>(ldRe (.pointer (some (ad.add (j * 3))))).run Tryz.prog v = .ok (.agg (ReC (mkR q))) v/\(ldRe (.pointer (some (ad.add (k * 3))))).run Tryz.prog v = .ok (.agg (ReC (mkR r))) v) (by kernel_rfl) (⟨run_laRe (HAj.out.on (below_drew1 w1)),run_laRe (HAk.out.on (below_drew1 w1))⟩) (fun hHeld=>?_);have bD:=below_drew1 w1;have eD:w1.drew.heap.size=w1.heap.size:=rfl;obtain ⟨wd,hwd⟩:∃ wd,w1.drew=wd:=⟨_,rfl⟩;rw [hwd] at bD eD hHeld ⊢;obtain ⟨gd,hgd⟩:∃ g,w1.heap.size=g:=⟨_,rfl⟩;rw [hgd] at eD;refine wU 0 ?_;refine wU 1 ?_;refine wU 2 ?_;refine wU 3 ?_;refine wU 4 ?_;refine wU 5 ?_;refine wU 6 ?_;refine wU 7 ?_;refine wU 8 ?_;refine wpAnyH_ready (rs:=[9,10]) (by kernel_rfl) (by simp) ?_;refine AllReadyH.cons rfl (fun K hK=>?_) (AllReadyH.cons rfl (fun K hK=>?_) AllReadyH.nil)
     ·go_simp;refine hK.out _ _ (⟨run_laRe (HAj.out.on (bD.trans ((below_new _ _).mono bD.size))),run_laRe (HAk.out.on (bD.trans ((below_new _ _).mono bD.size)))⟩) (fun hHeld=>?_);clear hK K;refine wpAnyH_ready (rs:=[10]) (by kernel_rfl) (by simp) (.cons rfl (fun K hK=>?_) .nil);go_simp;refine hK.out _ _ (⟨run_laRe (HAj.out.on ((bD.trans ((below_new _ _).mono bD.size)).trans ((below_new _ _).mono (bD.trans ((below_new _ _).mono bD.size)).size))),run_laRe (HAk.out.on ((bD.trans ((below_new _ _).mono bD.size)).trans ((below_new _ _).mono (bD.trans ((below_new _ _).mono bD.size)).size)))⟩) (fun hHeld=>?_);clear hK K;obtain ⟨w5,hs5,b5,w6,hs6,x6,y6,b6⟩:=two_recs wd q r gd eD (gd) (gd+1) (.inl ⟨rfl,rfl⟩);refine wpAnyH_ready (rs:=[11]) (by kernel_rfl) (by simp) (.cons rfl (fun K hK=>?_) .nil);go_simp;refine hK.out _ _ (⟨run_laRe (HAj.out.on (bD.trans (b5.mono bD.size))),run_laRe (HAk.out.on (bD.trans (b5.mono bD.size)))⟩) (fun hHeld=>?_)
      clear hK K hs5;refine wpAnyH_ready (rs:=[12]) (by kernel_rfl) (by simp) (.cons rfl (fun K hK=>?_) .nil);go_simp;refine hK.out _ _ (⟨run_laRe (HAj.out.on (bD.trans (b6.mono bD.size))),run_laRe (HAk.out.on (bD.trans (b6.mono bD.size)))⟩) (fun hHeld=>?_);clear hK K hs6;refine wpAnyH_done (by kernel_rfl) ?_ _;clear hHeld;have HF:Hid ((ReBox w6 (gd) (mkR q)/\ReBox w6 (gd+1) (mkR r))/\Below w1.heap.size w1 w6/\PSrc w6 q.p/\PSrc w6 r.p):=⟨⟨x6,y6⟩,bD.trans (b6.mono bD.size),(HOj.out.below (bD.trans (b6.mono bD.size))).1,(HOk2.out.below (bD.trans (b6.mono bD.size))).1⟩;clear x6 y6 b5 b6 bD eD hwd hgd HAj HAk HOj HOk2 HS1;obtain ⟨h4,h5⟩:=HF.out.1;obtain ⟨h6,h7,h8⟩:=HF.out.2;have HB5:=wTr HB1 h6;have HSj:=hide h7;have HSk:=hide h8;have HX4:=hide h4;have HX5:=hide h5;have s4:=h4.sk;have s5:=h5.sk;have p4:=run_ldP h4.past;have p5:=run_ldP h5.past
      clear h4 h5 h6 h7 h8 HF;obtain ⟨f1,f2⟩:=str_facts q.s r.s;by_cases hlt0:cmpS q.s r.s < 0
      ·rw [decide_eq_true hlt0] at f1;rw [decide_eq_false (show ¬ cmpS q.s r.s=0 by omega)] at f2;have HL:=hide (HLt.out _ (.inl ⟨by omega,rfl⟩) hlt0);clear hlt0;go_wp2_with fail;go_roundw
       case rel=>exact ⟨k+1,by omega,by simp,HK.out.snoc HOk.out HL.out,HB5.out⟩
       case measure=>simp [intOf];omega
      ·rw [decide_eq_false hlt0] at f1;by_cases he0:cmpS q.s r.s=0
       ·rw [decide_eq_true he0] at f2;have HE0:=hide he0;clear hlt0 he0;go_wp2_with fail;refine (refCompare_any q.p r.p _ HSj.out HSk.out).mono ?_;rintro e w7 ⟨z,rfl,hz,b7⟩;have HZ:Hid (CmpR q r z):=.inr ⟨HE0.out,cmpV_of hz⟩;have HB7:=wTr HB5 b7;clear hz b7 p4 p5 s4 s5;by_cases hz0:(0:Int) <= z
        ·have HN:=hide (HNo.out z HZ.out (by omega));go_wp2_with fail;go_ret;exact ⟨_,rfl,BIf.no HN.out,HB7.out⟩
        ·have HL:=hide (HLt.out z HZ.out (by omega));go_wp2_with fail;go_roundw
         case rel=>exact ⟨k+1,by omega,by simp,HK.out.snoc HOk.out HL.out,HB7.out⟩
         case measure=>simp [intOf];omega
       ·rw [decide_eq_false he0] at f2;have HN:=hide (HNo.out _ (.inl ⟨he0,rfl⟩) (by omega));clear hlt0 he0;go_wp2_with fail;go_ret;exact ⟨_,rfl,BIf.no HN.out,HB5.out⟩
     ·go_simp;refine hK.out _ _ (⟨run_laRe (HAj.out.on (bD.trans ((below_new _ _).mono bD.size))),run_laRe (HAk.out.on (bD.trans ((below_new _ _).mono bD.size)))⟩) (fun hHeld=>?_);clear hK K;refine wpAnyH_ready (rs:=[9]) (by kernel_rfl) (by simp) (.cons rfl (fun K hK=>?_) .nil);go_simp;refine hK.out _ _ (⟨run_laRe (HAj.out.on ((bD.trans ((below_new _ _).mono bD.size)).trans ((below_new _ _).mono (bD.trans ((below_new _ _).mono bD.size)).size))),run_laRe (HAk.out.on ((bD.trans ((below_new _ _).mono bD.size)).trans ((below_new _ _).mono (bD.trans ((below_new _ _).mono bD.size)).size)))⟩) (fun hHeld=>?_);clear hK K;obtain ⟨w5,hs5,b5,w6,hs6,x6,y6,b6⟩:=two_recs wd q r gd eD (gd+1) (gd) (.inr ⟨rfl,rfl⟩);refine wpAnyH_ready (rs:=[11]) (by kernel_rfl) (by simp) (.cons rfl (fun K hK=>?_) .nil);go_simp;refine hK.out _ _ (⟨run_laRe (HAj.out.on (bD.trans (b5.mono bD.size))),run_laRe (HAk.out.on (bD.trans (b5.mono bD.size)))⟩) (fun hHeld=>?_)
      clear hK K hs5;refine wpAnyH_ready (rs:=[12]) (by kernel_rfl) (by simp) (.cons rfl (fun K hK=>?_) .nil);go_simp;refine hK.out _ _ (⟨run_laRe (HAj.out.on (bD.trans (b6.mono bD.size))),run_laRe (HAk.out.on (bD.trans (b6.mono bD.size)))⟩) (fun hHeld=>?_);clear hK K hs6;refine wpAnyH_done (by kernel_rfl) ?_ _;clear hHeld;have HF:Hid ((ReBox w6 (gd+1) (mkR q)/\ReBox w6 (gd) (mkR r))/\Below w1.heap.size w1 w6/\PSrc w6 q.p/\PSrc w6 r.p):=⟨⟨x6,y6⟩,bD.trans (b6.mono bD.size),(HOj.out.below (bD.trans (b6.mono bD.size))).1,(HOk2.out.below (bD.trans (b6.mono bD.size))).1⟩;clear x6 y6 b5 b6 bD eD hwd hgd HAj HAk HOj HOk2 HS1;obtain ⟨h4,h5⟩:=HF.out.1;obtain ⟨h6,h7,h8⟩:=HF.out.2;have HB5:=wTr HB1 h6;have HSj:=hide h7;have HSk:=hide h8;have HX4:=hide h4;have HX5:=hide h5;have s4:=h4.sk;have s5:=h5.sk;have p4:=run_ldP h4.past;have p5:=run_ldP h5.past
      clear h4 h5 h6 h7 h8 HF;obtain ⟨f1,f2⟩:=str_facts q.s r.s;by_cases hlt0:cmpS q.s r.s < 0
      ·rw [decide_eq_true hlt0] at f1;rw [decide_eq_false (show ¬ cmpS q.s r.s=0 by omega)] at f2;have HL:=hide (HLt.out _ (.inl ⟨by omega,rfl⟩) hlt0);clear hlt0;go_wp2_with fail;go_roundw
       case rel=>exact ⟨k+1,by omega,by simp,HK.out.snoc HOk.out HL.out,HB5.out⟩
       case measure=>simp [intOf];omega
      ·rw [decide_eq_false hlt0] at f1;by_cases he0:cmpS q.s r.s=0
       ·rw [decide_eq_true he0] at f2;have HE0:=hide he0;clear hlt0 he0;go_wp2_with fail;refine (refCompare_any q.p r.p _ HSj.out HSk.out).mono ?_;rintro e w7 ⟨z,rfl,hz,b7⟩;have HZ:Hid (CmpR q r z):=.inr ⟨HE0.out,cmpV_of hz⟩;have HB7:=wTr HB5 b7;clear hz b7 p4 p5 s4 s5;by_cases hz0:(0:Int) <= z
        ·have HN:=hide (HNo.out z HZ.out (by omega));go_wp2_with fail;go_ret;exact ⟨_,rfl,BIf.no HN.out,HB7.out⟩
        ·have HL:=hide (HLt.out z HZ.out (by omega));go_wp2_with fail;go_roundw
         case rel=>exact ⟨k+1,by omega,by simp,HK.out.snoc HOk.out HL.out,HB7.out⟩
         case measure=>simp [intOf];omega
       ·rw [decide_eq_false he0] at f2;have HN:=hide (HNo.out _ (.inl ⟨he0,rfl⟩) (by omega));clear hlt0 he0;go_wp2_with fail;go_ret;exact ⟨_,rfl,BIf.no HN.out,HB5.out⟩
  ·obtain rfl:k=n:=by omega
   go_wp2_with fail;go_ret;exact ⟨_,rfl,BIf.yes HK.out,HB.out⟩
end
section
open Go.RowKit
attribute [local go_sem ↓] ldP_eq stP_eq ldRe_eq stRe_eq
attribute [local go_sem] cells_PV PC_size cells_ReV ReC_size zero_ReC
end
section
open Go.RowKit Go.Maps Go.Sort
attribute [local go_sem ↓] ldP_eq stP_eq ldRe_eq stRe_eq
attribute [local go_sem] cells_ReV ReC_size zero_ReC
theorem RcT.drop {w:World} {ad:Addr} {n c:Nat} {L:List Rc} (h:RcT w (some ad) n c L) (k:Nat) (hk:k <= n):RcT w (some (ad.add (k * 3))) (n - k) (c - k) (L.drop k):=by
 have hl:=h.src.len;have hc:=h.room;have hb:=h.src.big;refine ⟨⟨by rw [List.length_drop];omega,fun e=>(by cases e),fun ad' e t ht=>?_,fun r hr=>h.src.ok r (List.mem_of_mem_drop hr),by omega⟩,by omega,fun e=>(by cases e)⟩;obtain rfl:=Option.some.inj e;have A:=h.src.at_ ad rfl (k+t) (by omega)
 have e1:(L.drop k).getD t rc0=L.getD (k+t) rc0:=by
  simp only [List.getD,List.getElem?_drop]
 rw [e1,add_add,show k * 3+t * 3=(k+t) * 3 by omega];exact A
def SoOf (L F:List Rc):Prop:=Srt ck (plR F)/\(∀ y,y∈plR F↔y∈plR L)/\∀ r∈F,RecOk r
def OrA (w w':World) (x:Ending) (L:List Rc):Prop:=∃ (h:Hs) (F:List Rc),x = .returned (HsV h)/\RcT w' h.o h.n h.c F/\h.n <= L.length/\(∀ ad,h.o=some ad -> w.heap.size <= ad.block)/\Below w.heap.size w w'/\SoOf L F
def ZOf (A B:List Rc) (i j na nb:Nat) (z:Int):Prop:=(i=na/\z=1)∨(i < na/\j=nb/\z = -1)∨(i < na/\j < nb/\z=ck (rck (A.getD i rc0)) (rck (B.getD j rc0)))
section
variable {X Y D : List Rp} {A B : List Rc} {i j : Nat} {z : Int}
end
structure UO (w2 wr:World) (A B:List Rc) (i j:Nat) (h:Hs) (D:List Rc):Prop where
 own:OwnRc w2.heap.size w2 wr h D
 okd:∀ r∈D,RecOk r
 mg:Mg ck (plR A) (plR B) (plR D) (plR (A.drop i)) (plR (B.drop j))
 num:h.n <= i+j
theorem UO.later {w2 wr wr2:World} {A B:List Rc} {i j:Nat} {h:Hs} {D:List Rc} (U:UO w2 wr A B i j h D) (hb:Below wr.heap.size wr wr2):UO w2 wr2 A B i j h D:=⟨U.own.later hb,U.okd,U.mg,U.num⟩
def UOv (w2:World) (A B:List Rc) (na nb:Nat) (v vi vj:Value) (wr:World):Prop:=∃ (i j:Nat) (h:Hs) (D:List Rc),i <= na/\j <= nb/\v = .slice h.o h.n h.c/\vi = .int .i64 (i:Int)/\vj = .int .i64 (j:Int)/\Hid (UO w2 wr A B i j h D)
def UrA (w w':World) (x:Ending) (L:List Rc) (n:Nat) (M:List Rc) (m:Nat):Prop:=(OkR L n/\OkR M m/\∃ (h:Hs) (F:List Rc),x = .returned (.tuple #[HsV h,.int .i64 0])/\RcT w' h.o h.n h.c F/\(∀ ad,h.o=some ad -> w.heap.size <= ad.block)/\h.n <= n+m/\Below w.heap.size w w'/\UnOf L M F)∨(¬ (OkR L n/\OkR M m)/\x = .returned (.tuple #[.slice none 0 0,.int .i64 1])/\Below w.heap.size w w')
end
section
open Go.RowKit
attribute [local go_sem ↓] ldP_eq stP_eq ldFa_eq stFa_eq
attribute [local go_sem] cells_PV PC_size cells_FaV FaC_size
def ChkF (f:Fc) (x:Int):Prop:=(x=0/\FormF f)∨(x=1/\¬ FormF f)
theorem chk_okN {f:Fc} (hl:f.es.length=f.an):K.chk f.es=0↔K.okN f.es f.an=true:=by
 unfold K.chk;rw [hl]
 split <;> simp_all
theorem tCheck_any (f:Fc) (w:World) (hF:FcOk w f):Calls Tryz.prog 68 #[FaV (mkF f)] w fun e w'=>GivesK w w' e (ChkF f):=by
 have HX:=hide (FaBox_new w (mkF f));have HBK:=hide (below_new w (.cells (FaC (mkF f)) 29));have HS:=hide (hF.below HBK.out);clear hF;obtain ⟨wk,hwk⟩:∃ wk,w.alloc (.cells (FaC (mkF f)) 29)=wk:=⟨_,rfl⟩;obtain ⟨G,hG⟩:∃ G,w.heap.size=G:=⟨_,rfl⟩;rw [hwk] at HX HBK HS;rw [hG] at HX;obtain ⟨c0,c3⟩:=HX.out.cs;go_enter Tryz.func68,Tryz.ntmps68;go_wp2_with fail;clear hwk hG;refine (K.lcheck_any f.ao f.an f.ac f.es _ HS.out.es).mono ?_;rintro e w1 ⟨rfl,b1⟩;have HB1:=wTr HBK b1;have HX1:=hide (HX.out.below b1);have HS1:=hide (HS.out.below b1);clear b1 c0 c3;by_cases h0:K.chk f.es=0
 ·have H0:=hide h0;rw [h0];clear h0;have lp:=run_ldP HX1.out.past;go_wp2_with fail;refine (isNormP_any f.p _ HS1.out.p).mono ?_;rintro e w2 ⟨b,rfl,hb,b2⟩;have HB2:=wTr HB1 b2;have HX2:=hide (HX1.out.below b2);have HS2:=hide (HS1.out.below b2);clear b2 lp
  cases b with
  | false =>
   have HE:Hid (ChkF f 1):=.inr ⟨rfl,fun h=>(by have:=hb.2 h.2.1;cases this)⟩;clear hb;go_wp2_with fail;go_ret;exact ⟨_,rfl,HE.out,HB2.out⟩
  | true =>
   have HI:Hid (InForm f.p.P):=hb.1 rfl;obtain ⟨-,c3⟩:=HX2.out.cs;clear hb;go_wp2_with fail;refine (keepCheck_any f.ro f.rn f.rc f.rs _ HS2.out.rs).mono ?_;rintro e w3 ⟨x,rfl,hx,b3⟩;have HB3:=wTr HB2 b3;clear b3 c3;rcases hx with ⟨rfl,h1⟩ | ⟨rfl,h1⟩
   ·have HE:Hid (ChkF f 0):=.inl ⟨rfl,(chk_okN HS.out.es.1).1 H0.out,HI.out,h1⟩;clear h1;go_wp2_with fail;go_ret;exact ⟨_,rfl,HE.out,HB3.out⟩
   ·have HE:Hid (ChkF f 1):=.inr ⟨rfl,fun h=>h1 h.2.2⟩;clear h1;go_wp2_with fail;go_ret;exact ⟨_,rfl,HE.out,HB3.out⟩
 ·have HE:Hid (ChkF f 1):=.inr ⟨rfl,fun h=>h0 ((chk_okN HS.out.es.1).2 h.1)⟩
  have hne:(K.chk f.es != 0)=true:=by simp [h0]
  clear h0;go_wp2_with fail;go_ret;exact ⟨_,rfl,HE.out,HB1.out⟩
theorem box2F (w:World) (f g:Fc):∃ wk,(w.alloc (.cells (FaC (mkF f)) 29)).alloc (.cells (FaC (mkF g)) 29)=wk/\Hid (FaBox wk w.heap.size (mkF f))/\Hid (FaBox wk (w.heap.size+1) (mkF g))/\Hid (Below w.heap.size w wk):=by
 have b1:=below_new w (.cells (FaC (mkF f)) 29);have b2:=below_new (w.alloc (.cells (FaC (mkF f)) 29)) (.cells (FaC (mkF g)) 29);have X2:=FaBox_new (w.alloc (.cells (FaC (mkF f)) 29)) (mkF g);rw [World.size_alloc] at X2;exact ⟨_,rfl,(FaBox_new w (mkF f)).below b2,X2,b1.trans (b2.mono b1.size)⟩
def ChkB (f g:Fc) (x:Int):Prop:=(x=0/\FormF f/\FormF g)∨(x=1/\¬ (FormF f/\FormF g))
end
end Go.Proofs.YtjeilkenjdnafaaGreat
namespace Go.Proofs.YtjeilkenjdnafaaGreat.K
section


def Chunked {α : Type} (le : α -> α -> Prop) (w:Nat) (L:List α):Prop:=∀ q,((L.drop (q * w)).take w).Pairwise le
def mrg {α : Type} (le : α -> α -> Bool) (L:List α) (i mid j en:Nat):List α := List.merge ((L.drop i).take (mid - i)) ((L.drop j).take (en - j)) le
structure Pass {α : Type} (le : α -> α -> Bool) (L M:List α) (n q f t:Nat):Prop where
 hf:f=2 * t * q
 hl:M.length=min f n
 hp:M.Perm (L.take f)
 hc:Chunked (fun x y=>le x y=true) (2 * q) M
end
section
open Go.RowKit
attribute [local go_sem ↓] ld28_eq st28_eq ld26_eq
attribute [local go_sem] zero_EC cells_EV EC_size
def leE (x y:En):Bool := !ahead y x
end
section
open Go.RowKit
attribute [local go_sem ↓] ld28_eq st28_eq
attribute [local go_sem] zero_EC cells_EV EC_size
attribute [local go_sem] fold_EC
def mk22 (a b:Value):Sem Value:=Instr.makeSlice 22 a b
theorem mk22_eq (a b:Value):Instr.makeSlice 22 a b=mk22 a b:=rfl
attribute [local go_sem ↓] mk22_eq
def InOrder (L R:List En):Prop:=R.Perm L/\R.Pairwise (fun x y=>leE x y=true)
def GivesS (w w':World) (e:Ending) (L:List En):Prop:=∃ R,InOrder L R/\GivesE w w' e R
end
section
open Go.RowKit

instance:DecidableEq En:=fun a b =>
 decidable_of_iff (a.rep=b.rep/\a.num=b.num/\a.sku=b.sku/\a.qty=b.qty) ⟨fun ⟨h1,h2,h3,h4⟩=>by cases a;cases b;simp_all,fun h=>by subst h;exact ⟨rfl,rfl,rfl,rfl⟩⟩
instance:Inhabited En:=⟨en0⟩
def sameDot (x y:En):Bool:=x.rep == y.rep && x.num == y.num
theorem ahead_trans {x y z:En} (h:ahead x y=true) (h2:ahead y z=true):ahead x z=true:=by
 simp [ahead] at *;omega
theorem ahead_same {x y:En} (h:ahead x y=true):sameDot x y=false:=by
 simp [ahead,sameDot] at *;omega
theorem same_symm {x y:En}:sameDot x y=sameDot y x:=by
 simp [sameDot,Bool.beq_comm]
def Clash (L:List En):Prop:=∃ x,x∈L/\∃ y,y∈L/\sameDot x y=true/\x≠y
def Asc (R:List En):Prop:=R.Pairwise (fun x y=>ahead x y=true)
def Settled (L R:List En) (e:Int):Prop:=(Clash L/\R=[]/\e=10)∨(¬ Clash L/\e=0/\Asc R/\∀ x,x∈R↔x∈L)
theorem asc_noclash {R L:List En} (h:Asc R) (hm:∀ x,x∈R↔x∈L):¬ Clash L:=by
 rintro ⟨x,hx,y,hy,hs,hne⟩;have hx:=(hm x).2 hx;have hy:=(hm y).2 hy;clear hm
 induction R with
 | nil=>simp at hx
 | cons a R ih =>
  obtain ⟨a1,a2⟩:=List.pairwise_cons.1 h;rcases List.mem_cons.1 hx with e | e
  ·subst e;rcases List.mem_cons.1 hy with e | e
   ·exact hne e.symm
   ·have:=ahead_same (a1 y e);rw [hs] at this;cases this
  ·rcases List.mem_cons.1 hy with e' | e'
   ·subst e';have:=ahead_same (a1 x e);rw [same_symm,hs] at this;cases this
   ·exact ih a2 e e'
def OnceInv (L:List En) (k:Nat) (acc:List En):Prop:=Asc acc/\∀ x,x∈acc↔x∈L.take k
theorem getD_mem (L:List En) (k:Nat) (h:k < L.length):L.getD k en0∈L:=by
 have:L.getD k en0=L[k]:=by simp [List.getD,h]
 rw [this];exact List.getElem_mem _
end
end Go.Proofs.YtjeilkenjdnafaaGreat.K
namespace Go.Proofs
open Go.Shelf
def Tryz.sortEn_ren:Go.Shelf.Ren:=⟨fun | 6=>128 | 15=>140 | 14=>160 | 28=>175 | 29=>176 | 20=>187 | 21=>188 | 22=>189 | 23=>190 | 24=>191 | 25=>192 | 26=>193 | 27=>194 | 46=>216 | 47=>197 | 48=>198 | 49=>217 | 50=>218 | 57=>235 | n=>n,fun | 22=>22 | 24=>57 | 25=>140 | 3=>3 | 39=>176 | 0=>0 | 53=>204 | 55=>206 | 4=>4 | 46=>198 | 45=>197 | 50=>178 | 5=>5 | 9=>9 | 66=>220 | 70=>224 | 76=>237 | 77=>185 | n=>n,fun | n=>n⟩
end Go.Proofs
