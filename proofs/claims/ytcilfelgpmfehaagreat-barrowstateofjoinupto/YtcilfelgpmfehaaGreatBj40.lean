/- YGg -/
import Derived.Test.YtcilfelgpmfehaaGreatBj39
set_option maxRecDepth 100000
set_option maxHeartbeats 6400000
namespace Go.Proofs.YtcilfelgpmfehaaGreat
open Go.RowKit
attribute [local go_sem ↓] zl zk qX xu
attribute [local go_sem] zw zf zW zh qS qi xW qy
theorem In {Z:List Int} (h:∀ k,k < Z.length -> 0 <= Z.getD k 0/\Z.getD k 0 <= 1000000000) {r:Int} (h0:0 <= r) (h1:r < 16):V.atI Z r=Z.getD r.toNat 0:=by
 have e:V.isR r=true:=by simp [V.isR];omega
 unfold V.atI;rw [if_pos e];unfold V.at';rw [if_pos (by omega)];by_cases hl:r.toNat < Z.length
 ·have:=h _ hl;unfold V.dK;rw [if_neg (by omega),if_neg (by omega)]
 ·rw [qh hl];rfl
theorem tH:∀ (L:List Sn) (j:Nat),0 < j -> j <= L.length -> aX sn0 (L.take j)=L.getD (j - 1) sn0:=fun L j h0 hj=>by
 obtain ⟨k,rfl⟩:∃ k,j=k+1:=⟨j - 1,by omega⟩;rw [x6 L k (by omega),kF];rfl
theorem jf (p:Pv) (w:World) (hS:ak w p):Calls Tryz.prog 29 #[PV p] w fun e w'=>dr w w' e (af p.P):=by
 have b1:=ze w (.cells (PC p) 26);obtain ⟨n0,n1⟩:=(zq w p).nums;obtain ⟨wk,cq⟩:∃ wk,w.alloc (.cells (PC p) 26)=wk:=⟨_,rfl⟩;rw [cq] at n0 n1 b1;have az:=hide b1;have ol:=hide (hS.below az.out).vec;have ma:=hide (hS.below az.out).cloud;have g8:=hS.cloud.big;have g9:=hS.big;obtain ⟨G,hG⟩:∃ G,w.heap.size=G:=⟨_,rfl⟩;rw [hG] at n0 n1;have HN:Hid (∀ W,Below wk.heap.size wk W -> W.cell? ⟨G,0,none⟩=some (.slice p.vo p.vn p.vc)/\W.cell? ⟨G,1,none⟩=some (.slice p.co p.cn p.cc)):=fun W h=>⟨(h.cell (World.block_lt_of_cell? _ _ n0)).trans n0,(h.cell (World.block_lt_of_cell? _ _ n1)).trans n1⟩;clear hS b1;obtain ⟨pvo,pvn,pvc,pco,pcn,pcc,pP⟩:=p;dsimp only at n0 n1 ol ma g8 g9 HN ⊢;have HL:Hid (pP.vec.length=pvn):=ol.out.1;have mD:Hid (decide (pP.vec=V.aH (V.at' pP.vec))=false -> ∀ W,Below wk.heap.size wk W -> dr w W (.returned (.bool false)) (af pP)):=fun h W hW=>⟨false,rfl,BIf.no (fun k=>by rw [decide_eq_true k.1] at h;cases h),az.out.trans (hW.mono az.out.size)⟩
 have IT:Hid (pP.cloud.length=pcn):=ma.out.len;have IB:Hid (∀ wx,wx=wk -> wx=wk):=fun _ h=>h;go_enter Tryz.func29,Tryz.ntmps29;by_cases oN:16 < pvn
 ·have HF:=hide (mD.out (V.zbp pP.vec (by rw [HL.out];exact oN)) _ (Below.refl _ _));have CK:decide ((16:Int) < (pvn:Int))=true:=decide_eq_true (by omega);go_wp2_with fail;go_ret;exact HF.out
 have CK:decide ((16:Int) < (pvn:Int))=false:=decide_eq_false (by omega);by_cases hls:0 < pvn/\pP.vec.getD (pvn - 1) 0=0
 ·have HF:=hide (mD.out (V.yf pP.vec (by rw [HL.out];exact hls.1) (by rw [HL.out];exact hls.2)) _ (Below.refl _ _));obtain ⟨ad,hvo,q1⟩:=qT ol.out (pvn - 1) (by omega);rw [hls.2] at q1;obtain ⟨j,hj⟩:∃ j,pvn - 1=j:=⟨_,rfl⟩
  have hz:IntKind.i64.wrap ((pvn:Int) - 1)=(j:Int):=by rw [IntKind.wrap_i64];omega
  have iR:j < pvn:=by omega
  have h0:decide ((0:Int) < (pvn:Int))=true:=decide_eq_true (by omega);rw [hj] at q1;subst hvo;clear hls oN hj;go_wp2_with fail;go_ret;exact HF.out
 have rd:Hid (pP.vec.length=0∨pP.vec.getD (pP.vec.length - 1) 0≠0):=by
  rw [HL.out];by_cases h:pvn=0
  ·exact .inl h
  ·exact .inr (fun e=>hls ⟨by omega,e⟩)
 have KY:Hid (pP.vec.length <= 16):=by show _ <= _;rw [HL.out];omega
 go_upto_region 1 with fail;clear cq hG
 go_cut [28] from 8 to 27 (fun v W=>v = .bool false/\W=wk)
 case first =>
  by_cases h:pvn=0
  ·have h0:decide ((0:Int) < (pvn:Int))=false:=decide_eq_false (by omega);go_wp2_with fail;go_meet;exact ⟨rfl,rfl⟩
  ·obtain ⟨ad,hvo,q1⟩:=qT ol.out (pvn - 1) (by omega);have aT:¬ pP.vec.getD (pvn - 1) 0=0:=fun e=>hls ⟨by omega,e⟩;obtain ⟨x,hx⟩:∃ x,pP.vec.getD (pvn - 1) 0=x:=⟨_,rfl⟩;rw [hx] at q1 aT;obtain ⟨j,hj⟩:∃ j,pvn - 1=j:=⟨_,rfl⟩
   have hz:IntKind.i64.wrap ((pvn:Int) - 1)=(j:Int):=by rw [IntKind.wrap_i64];omega
   have iR:j < pvn:=by omega
   have h0:decide ((0:Int) < (pvn:Int))=true:=decide_eq_true (by omega)
   have Kv:(x == 0)=false:=by simpa using aT
   rw [hj] at q1;subst hvo;clear hls oN hj hx aT;go_wp2_with fail;go_meet;exact ⟨rfl,rfl⟩
 case rest =>
 obtain ⟨rfl,IH⟩:=hcut;have FE:=IH.symm;clear IH;subst FE;clear hls oN CK;go_wp2_with fail;go_loopw [32] (fun i wr=>∃ k:Nat,k <= pvn/\i = .int .i64 k/\Hid (∀ j,j < k -> 0 <= pP.vec.getD j 0/\pP.vec.getD j 0 <= 1000000000)/\wk=wr) (fun i _=>pvn - (intOf i).toNat)
 case atStart=>exact ⟨0,Nat.zero_le _,rfl,fun j hj=>absurd hj (by omega),rfl⟩
 case round =>
  obtain ⟨k,hk,rfl,HB,Ce⟩:=hrel;subst Ce;by_cases aq:k < pvn
  ·obtain ⟨ad,rfl,q1⟩:=qT ol.out k aq;obtain ⟨x,Hx⟩:∃ x,Hid (pP.vec.getD k 0=x):=⟨_,rfl⟩;rw [Hx.out] at q1;have HW:Hid (¬ (0 <= x/\x <= 1000000000) -> decide (pP.vec=V.aH (V.at' pP.vec))=false):=fun h=>V.yO pP.vec k (by rw [HL.out];exact aq) (by rw [Hx.out];exact h);by_cases h1:x < 0
   ·have oO:decide (x < 0)=true:=decide_eq_true h1;have HF:=hide (mD.out (HW.out (by omega)) _ (Below.refl _ _));clear h1;go_wp2_with fail;go_ret;exact HF.out
   have oO:decide (x < 0)=false:=decide_eq_false h1;by_cases h2:1000000000 < x
   ·have rj:decide (1000000000 < x)=true:=decide_eq_true h2;have HF:=hide (mD.out (HW.out (by omega)) _ (Below.refl _ _));clear h1 h2;go_wp2_with fail;go_ret;exact HF.out
   have rj:decide (1000000000 < x)=false:=decide_eq_false h2
   have Me:Hid (∀ j,j < k+1 -> 0 <= pP.vec.getD j 0/\pP.vec.getD j 0 <= 1000000000):=fun j hj=>by
    by_cases e:j=k
    ·rw [e,Hx.out];omega
    ·exact HB.out j (by omega)
   clear h1 h2;go_wp2_with fail;go_roundw
   case rel=>exact ⟨k+1,by omega,by go_num,Me.out,by first | trivial | rfl⟩
   case measure=>simp [intOf];omega
  ·obtain rfl:pvn=k:=by omega
   have HV:Hid (pP.vec=V.aH (V.at' pP.vec)):=by
    have h:=V.zaO pP.vec KY.out (fun j hj=>HB.out j (by rw [<- HL.out];exact hj)) rd.out
    have h3:pP.vec=V.aH (V.at' pP.vec):=by simpa using h
    exact h3
   have gT:Hid (∀ j,j < pP.vec.length -> 0 <= pP.vec.getD j 0/\pP.vec.getD j 0 <= 1000000000):=fun j hj=>HB.out j (by rw [<- HL.out];exact hj);clear HB aq hk;go_wp2_with fail;go_loopw [46] (fun i wr=>∃ j:Nat,j <= pcn/\i = .int .i64 j/\Hid (chain pP.vec sn0 (pP.cloud.take j)/\Below wk.heap.size wk wr)) (fun i _=>pcn - (intOf i).toNat)
   case atStart=>exact ⟨0,Nat.zero_le _,rfl,trivial,Below.refl _ _⟩
   case round =>
    obtain ⟨j,hj,rfl,HI⟩:=hrel
    rename World=>w6
    by_cases aq:j < pcn
    ·obtain ⟨ad,hco,A0⟩:=(ma.out.below HI.out.2).at j aq;subst hco
     obtain ⟨q1,q2,rfl⟩:∃ b o,ad=⟨b,o,none⟩:=by
      obtain ⟨ad0,e0,A00⟩:=(ma.out.below HI.out.2).at 0 (by omega);obtain rfl:=Option.some.inj e0;have ov:=World.cell?_spot A00.c0;rw [Nat.zero_mul,add_zero] at ov;obtain ⟨b,o,sp⟩:=ad;have FH:sp=none:=ov;subst FH;exact ⟨b,o,rfl⟩
     obtain ⟨c,Hc⟩:∃ c,Hid (pP.cloud.getD j sn0=c):=⟨_,rfl⟩;rw [Hc.out] at A0;rw [Addr.add_lit] at A0
     have Aq:Hid (j < pP.cloud.length):=by show _ < _;rw [IT.out];exact aq
     have HT:=hide (x6 pP.cloud j Aq.out);rw [Hc.out] at HT;have dz:=zS A0;obtain ⟨g,hg⟩:∃ g,w6.heap.size=g:=⟨_,rfl⟩;obtain ⟨w7,cr,X7,b7,z7⟩:=fI w6 c g hg;have mn:=hide X7;have cM:=hide (HI.out.2.trans (b7.mono HI.out.2.size))
     have dP:Hid (¬ dI pP.vec (aX sn0 (pP.cloud.take j)) c -> ∀ W,Below w7.heap.size w7 W -> dr w W (.returned (.bool false)) (af pP)):=fun hn W hW=>⟨false,rfl,BIf.no (fun h=>by
      have:=yp (j+1) h.2;rw [HT.out,x9] at this
      exact hn this.2),az.out.trans ((cM.out.trans (hW.mono cM.out.size)).mono az.out.size)⟩
     have fH:Hid (dI pP.vec (aX sn0 (pP.cloud.take j)) c -> chain pP.vec sn0 (pP.cloud.take (j+1))):=fun h=>by
      rw [HT.out,x9];exact ⟨HI.out.1,h⟩
     have cj:=hide aq;have fj:=V.zaw pP.vec c.rep
     obtain ⟨x0,x1,x2⟩:=X7.at
     clear A0 X7 b7 z7 HT aq;obtain ⟨rp,lo,hi⟩:=c;dsimp only at dz fj x0 x1 x2;by_cases h1:rp < 0
     ·have oO:decide (rp < 0)=true:=decide_eq_true h1;have HF:=hide (dP.out (fun h=>by have q:=h.isr;simp [V.isR] at q;omega) _ (Below.refl _ _));clear h1;go_wp2_with fail;go_ret;exact HF.out
     have oO:decide (rp < 0)=false:=decide_eq_false h1;by_cases h2:15 < rp
     ·have rj:decide (15 < rp)=true:=decide_eq_true h2;have HF:=hide (dP.out (fun h=>by have q:=h.isr;simp [V.isR] at q;omega) _ (Below.refl _ _));clear h1 h2;go_wp2_with fail;go_ret;exact HF.out
     have rj:decide (15 < rp)=false:=decide_eq_false h2;by_cases h3:lo < 1
     ·have Bx:decide (lo < 1)=true:=decide_eq_true h3;have HF:=hide (dP.out (fun h=>by have q:=h.lead;simp only at q;omega) _ (Below.refl _ _));clear h1 h2 h3;go_wp2_with fail;go_ret;exact HF.out
     have Bx:decide (lo < 1)=false:=decide_eq_false h3;by_cases h4:hi < lo
     ·have LI:decide (hi < lo)=true:=decide_eq_true h4;have HF:=hide (dP.out (fun h=>by have q:=h.ord;simp only at q;omega) _ (Below.refl _ _));clear h1 h2 h3 h4;go_wp2_with fail;go_ret;exact HF.out
     have LI:decide (hi < lo)=false:=decide_eq_false h4;by_cases h5:1000000000 < hi
     ·have MJ:decide (1000000000 < hi)=true:=decide_eq_true h5;have HF:=hide (dP.out (fun h=>by have q:=h.top;simp only at q;omega) _ (Below.refl _ _));clear h1 h2 h3 h4 h5;go_wp2_with fail;go_ret;exact HF.out
     have MJ:decide (1000000000 < hi)=false:=decide_eq_false h5;obtain ⟨rn,rfl⟩:∃ rn:Nat,rp=(rn:Int):=⟨rp.toNat,by omega⟩;have lI:Hid (rn < 16/\1 <= lo/\lo <= hi/\hi <= 1000000000):=⟨by omega,by omega,by omega,by omega⟩
     have uN:Hid (V.atI pP.vec (rn:Int)=pP.vec.getD rn 0):=by have:=In gT.out (r:=(rn:Int)) (by omega) (by omega);rw [Int.toNat_natCast] at this;exact this
     clear h1 h2 h3 h4 h5;obtain ⟨tp,tZ⟩:∃ tp,Hid (pP.vec.getD rn 0=tp):=⟨_,rfl⟩
     rw [uN.out,tZ.out] at fj
     have oz:IntKind.i64.wrap (tp+2)=tp+2:=by rw [IntKind.wrap_i64];omega
     have iS:Hid (¬ lo < tp+2 -> (aX sn0 (pP.cloud.take j)).rep <= (rn:Int) -> ((rn:Int)=(aX sn0 (pP.cloud.take j)).rep -> (aX sn0 (pP.cloud.take j)).hi+2 <= lo) -> dI pP.vec (aX sn0 (pP.cloud.take j)) ⟨(rn:Int),lo,hi⟩):=fun a b c=>⟨by have:=lI.out;simp [V.isR];omega,b,by simp only [uN.out,tZ.out];omega,c,lI.out.2.2.1,lI.out.2.2.2⟩
     have BE:Hid (lo < tp+2 -> ¬ dI pP.vec (aX sn0 (pP.cloud.take j)) ⟨(rn:Int),lo,hi⟩):=fun a h=>by have q:=h.lead;simp only [uN.out,tZ.out] at q;omega
     have rt:Hid (∀ a:Sn,aX sn0 (pP.cloud.take j)=a -> ((rn:Int) < a.rep∨(a.rep=(rn:Int)/\lo < a.hi+2)) -> ¬ dI pP.vec (aX sn0 (pP.cloud.take j)) ⟨(rn:Int),lo,hi⟩):=fun a e h k=>by
      rw [e] at k;rcases h with q | ⟨q1,q2⟩
      ·have:=k.rep;simp only at this;omega
      ·have:=k.gap q1.symm;simp only at this;omega
     by_cases h6:lo < tp+2
     ·have G2:decide (lo < tp+2)=true:=decide_eq_true h6;have HF:=hide (dP.out (BE.out h6) _ (Below.refl _ _));clear h6;by_cases h7:rn < pvn
      ·obtain ⟨av,hvo,q5⟩:=qT (ol.out.below cM.out) rn h7;rw [tZ.out] at q5;have n0':=(HN.out _ cM.out).1;rw [hvo] at n0';have Db:decide ((rn:Int) < (pvn:Int))=true:=decide_eq_true (by omega)
       have tR:(rn:Int) < (pvn:Int):=by omega
       clear hvo h7;go_wp2_with fail;go_ret;exact HF.out
      ·obtain rfl:tp=0:=by rw [<- tZ.out];exact qh (by rw [HL.out];exact h7)
       have n0':=(HN.out _ cM.out).1;have Db:decide ((rn:Int) < (pvn:Int))=false:=decide_eq_false (by omega)
       have tR:¬ (rn:Int) < (pvn:Int):=by omega
       have KG:decide (lo < 2)=true:=G2;clear h7;go_wp2_with fail;go_ret;exact HF.out
     have G2:decide (lo < tp+2)=false:=decide_eq_false h6;have H6:=hide h6;clear h6;have aw:Hid (∀ W,Below w7.heap.size w7 W -> (W.cell? ⟨G,1,none⟩=some (.slice (some ⟨q1,q2,none⟩) pcn pcc)/\W.cell? ⟨g,0,none⟩=some (.int .i64 (rn:Int))/\W.cell? ⟨g,1,none⟩=some (.int .i64 lo))):=fun W hW=>⟨(HN.out _ (cM.out.trans (hW.mono cM.out.size))).2,(mn.out.below hW).at.1,(mn.out.below hW).at.2.1⟩;by_cases h7:rn < pvn
     ·obtain ⟨av,hvo,q5⟩:=qT (ol.out.below cM.out) rn h7;rw [tZ.out] at q5;have n0':=(HN.out _ cM.out).1;rw [hvo] at n0';have Db:decide ((rn:Int) < (pvn:Int))=true:=decide_eq_true (by omega)
      have tR:(rn:Int) < (pvn:Int):=by omega
      clear hvo h7;by_cases hj0:j=0
      ·have Cs:=hide hj0;have k1:decide ((0:Int) < (j:Int))=false:=decide_eq_false (by omega);have k2:decide (0 < j)=false:=decide_eq_false (by omega);clear hj0;go_upto_region 19 with fail;refine wp_region_held_drew (S:=fun W=>(W.cell? ⟨G,1,none⟩=some (.slice (some ⟨q1,q2,none⟩) pcn pcc)/\W.cell? ⟨g,0,none⟩=some (.int .i64 (rn:Int))/\W.cell? ⟨g,1,none⟩=some (.int .i64 lo))) (by kernel_rfl) (aw.out _ (zd w7)) (fun hHeld=>?_);refine wU 0 ?_;refine wU 1 ?_;refine wU 2 ?_;refine wV 3 ?_;refine wV 4 ?_;refine wV 5 ?_;refine wV 6 ?_;refine wV 7 ?_;refine wV 8 ?_;refine wV 9 ?_;refine wV 10 ?_;refine wV 11 ?_;refine wV 12 ?_;refine wV 13 ?_;refine wV 14 ?_;refine wV 15 ?_;refine wV 16 ?_;refine wV 17 ?_;refine wV 18 ?_;refine wV 19 ?_;refine wV 20 ?_;refine wV 21 ?_;refine wV 22 ?_;refine wV 23 ?_;refine wV 24 ?_
       refine wV 25 ?_;refine wV 26 ?_;refine wV 27 ?_;refine wV 28 ?_;refine wV 29 ?_;refine wV 30 ?_;refine wV 31 ?_;refine wV 32 ?_;refine wV 33 ?_;refine wV 34 ?_;refine wV 35 ?_;refine wV 36 ?_;refine wV 37 ?_;refine wU 38 ?_;refine wD ?_ _;clear hHeld;have mc:=hide (fH.out (iS.out H6.out (by rw [show aX sn0 (pP.cloud.take j)=sn0 by rw [Cs.out];rfl];show (0:Int) <= _;omega) (fun e=>by rw [show aX sn0 (pP.cloud.take j)=sn0 by rw [Cs.out];rfl];show (0:Int)+2 <= lo;have:=fj;have:=H6.out;omega)));go_wp2_with fail;go_roundw
       case rel=>exact ⟨j+1,cj.out,by go_num,mc.out,cM.out.trans ((zd w7).mono cM.out.size)⟩
       case measure=>simp [intOf];have:=cj.out;omega
      ·obtain ⟨jj,uA⟩:∃ jj,j - 1=jj:=⟨_,rfl⟩
       have hz:IntKind.i64.wrap ((j:Int) - 1)=(jj:Int):=by rw [IntKind.wrap_i64];omega
       have iR:jj < pcn:=by have:=cj.out;omega
       have k1:decide ((0:Int) < (j:Int))=true:=decide_eq_true (by omega);have k2:decide (0 < j)=true:=decide_eq_true (by omega);obtain ⟨a,HA⟩:∃ a,Hid (aX sn0 (pP.cloud.take j)=a):=⟨_,rfl⟩
       have ha:pP.cloud.getD jj sn0=a:=by rw [<- HA.out,<- uA];exact (tH pP.cloud j (by omega) (by have:=Aq.out;omega)).symm
       have dW:=jR _ _ HI.out.1 (by decide) (by decide);rw [HA.out] at dW
       have oQ:Hid (∀ W,Below w7.heap.size w7 W -> W.cell? ⟨q1,q2+jj * 3,none⟩=some (.int .i64 a.rep)/\W.cell? ⟨q1,q2+jj * 3+2,none⟩=some (.int .i64 a.hi)):=fun W hW=>by
        obtain ⟨ad2,e2,A2⟩:=(ma.out.below (cM.out.trans (hW.mono cM.out.size))).at jj iR;obtain rfl:=Option.some.inj e2;rw [ha] at A2;rw [Addr.add_lit] at A2;exact ⟨A2.c0,A2.c2⟩
       clear hj0 uA ha;obtain ⟨ar,al,ah⟩:=a;dsimp only at oQ dW
       have MB:IntKind.i64.wrap (ah+2)=ah+2:=by rw [IntKind.wrap_i64];omega
       by_cases m1:(rn:Int) < ar
       ·have m1b:decide ((rn:Int) < ar)=true:=decide_eq_true m1;go_upto_region 19 with fail;refine wp_region_held_drew (S:=fun W=>(W.cell? ⟨G,1,none⟩=some (.slice (some ⟨q1,q2,none⟩) pcn pcc)/\W.cell? ⟨g,0,none⟩=some (.int .i64 (rn:Int))/\W.cell? ⟨g,1,none⟩=some (.int .i64 lo))/\W.cell? ⟨q1,q2+jj * 3,none⟩=some (.int .i64 ar)/\W.cell? ⟨q1,q2+jj * 3+2,none⟩=some (.int .i64 ah)) (by kernel_rfl) (⟨aw.out _ (zd w7),oQ.out _ (zd w7)⟩) (fun hHeld=>?_);refine wU 0 ?_;refine wU 1 ?_;refine wU 2 ?_;refine wU 3 ?_;refine wU 4 ?_;refine wU 5 ?_;refine wU 6 ?_;refine wU 7 ?_;refine wU 8 ?_;refine wU 9 ?_;refine wU 10 ?_;refine wU 11 ?_;refine wU 12 ?_;refine wU 13 ?_;refine wV 14 ?_;refine wV 15 ?_;refine wV 16 ?_;refine wV 17 ?_;refine wV 18 ?_;refine wV 19 ?_;refine wV 20 ?_;refine wV 21 ?_;refine wV 22 ?_
        refine wV 23 ?_;refine wV 24 ?_;refine wV 25 ?_;refine wV 26 ?_;refine wV 27 ?_;refine wV 28 ?_;refine wV 29 ?_;refine wV 30 ?_;refine wV 31 ?_;refine wV 32 ?_;refine wV 33 ?_;refine wV 34 ?_;refine wV 35 ?_;refine wV 36 ?_;refine wU 37 ?_;refine wU 38 ?_;refine wD ?_ _;clear hHeld;have HF:=hide (dP.out (rt.out _ HA.out (.inl m1)) _ (zd w7));go_wp2_with fail;go_ret;exact HF.out
       have m1b:decide ((rn:Int) < ar)=false:=decide_eq_false m1;by_cases m2:ar=(rn:Int)
       ·have m2b:(ar == (rn:Int))=true:=by simpa using m2
        by_cases m3:lo < ah+2
        ·have m3b:decide (lo < ah+2)=true:=decide_eq_true m3;go_upto_region 19 with fail;refine wp_region_held_drew (S:=fun W=>(W.cell? ⟨G,1,none⟩=some (.slice (some ⟨q1,q2,none⟩) pcn pcc)/\W.cell? ⟨g,0,none⟩=some (.int .i64 (rn:Int))/\W.cell? ⟨g,1,none⟩=some (.int .i64 lo))/\W.cell? ⟨q1,q2+jj * 3,none⟩=some (.int .i64 ar)/\W.cell? ⟨q1,q2+jj * 3+2,none⟩=some (.int .i64 ah)) (by kernel_rfl) (⟨aw.out _ (zd w7),oQ.out _ (zd w7)⟩) (fun hHeld=>?_);refine wU 0 ?_;refine wU 1 ?_;refine wU 2 ?_;refine wU 3 ?_;refine wU 4 ?_;refine wU 5 ?_;refine wU 6 ?_;refine wU 7 ?_;refine wU 8 ?_;refine wU 9 ?_;refine wU 10 ?_;refine wU 11 ?_;refine wU 12 ?_;refine wU 13 ?_;refine wU 14 ?_;refine wU 15 ?_;refine wU 16 ?_;refine wU 17 ?_;refine wU 18 ?_;refine wU 19 ?_;refine wU 20 ?_;refine wU 21 ?_;refine wU 22 ?_;refine wU 23 ?_
         refine wU 24 ?_;refine wU 25 ?_;refine wU 26 ?_;refine wU 27 ?_;refine wU 28 ?_;refine wU 29 ?_;refine wU 30 ?_;refine wU 31 ?_;refine wU 32 ?_;refine wU 33 ?_;refine wU 34 ?_;refine wU 35 ?_;refine wU 36 ?_;refine wU 37 ?_;refine wU 38 ?_;refine wD ?_ _;clear hHeld;have HF:=hide (dP.out (rt.out _ HA.out (.inr ⟨m2,m3⟩)) _ (zd w7));go_wp2_with fail;go_ret;exact HF.out
        ·have m3b:decide (lo < ah+2)=false:=decide_eq_false m3;go_upto_region 19 with fail;refine wp_region_held_drew (S:=fun W=>(W.cell? ⟨G,1,none⟩=some (.slice (some ⟨q1,q2,none⟩) pcn pcc)/\W.cell? ⟨g,0,none⟩=some (.int .i64 (rn:Int))/\W.cell? ⟨g,1,none⟩=some (.int .i64 lo))/\W.cell? ⟨q1,q2+jj * 3,none⟩=some (.int .i64 ar)/\W.cell? ⟨q1,q2+jj * 3+2,none⟩=some (.int .i64 ah)) (by kernel_rfl) (⟨aw.out _ (zd w7),oQ.out _ (zd w7)⟩) (fun hHeld=>?_);refine wU 0 ?_;refine wU 1 ?_;refine wU 2 ?_;refine wU 3 ?_;refine wU 4 ?_;refine wU 5 ?_;refine wU 6 ?_;refine wU 7 ?_;refine wU 8 ?_;refine wU 9 ?_;refine wU 10 ?_;refine wU 11 ?_;refine wU 12 ?_;refine wU 13 ?_;refine wU 14 ?_;refine wU 15 ?_;refine wU 16 ?_;refine wU 17 ?_;refine wU 18 ?_;refine wU 19 ?_;refine wU 20 ?_;refine wU 21 ?_;refine wU 22 ?_
         refine wU 23 ?_;refine wU 24 ?_;refine wU 25 ?_;refine wU 26 ?_;refine wU 27 ?_;refine wU 28 ?_;refine wU 29 ?_;refine wU 30 ?_;refine wU 31 ?_;refine wU 32 ?_;refine wU 33 ?_;refine wU 34 ?_;refine wU 35 ?_;refine wU 36 ?_;refine wU 37 ?_;refine wU 38 ?_;refine wD ?_ _;clear hHeld;have mc:=hide (fH.out (iS.out H6.out (by rw [HA.out];show ar <= _;omega) (fun e=>by rw [HA.out] at e ⊢;show ah+2 <= lo;omega)));go_wp2_with fail;go_roundw
         case rel=>exact ⟨j+1,cj.out,by go_num,mc.out,cM.out.trans ((zd w7).mono cM.out.size)⟩
         case measure=>simp [intOf];have:=cj.out;omega
       ·have m2b:(ar == (rn:Int))=false:=by simpa using m2
        go_upto_region 19 with fail;refine wp_region_held_drew (S:=fun W=>(W.cell? ⟨G,1,none⟩=some (.slice (some ⟨q1,q2,none⟩) pcn pcc)/\W.cell? ⟨g,0,none⟩=some (.int .i64 (rn:Int))/\W.cell? ⟨g,1,none⟩=some (.int .i64 lo))/\W.cell? ⟨q1,q2+jj * 3,none⟩=some (.int .i64 ar)/\W.cell? ⟨q1,q2+jj * 3+2,none⟩=some (.int .i64 ah)) (by kernel_rfl) (⟨aw.out _ (zd w7),oQ.out _ (zd w7)⟩) (fun hHeld=>?_);refine wU 0 ?_;refine wU 1 ?_;refine wU 2 ?_;refine wU 3 ?_;refine wU 4 ?_;refine wU 5 ?_;refine wU 6 ?_;refine wU 7 ?_;refine wU 8 ?_;refine wU 9 ?_;refine wU 10 ?_;refine wU 11 ?_;refine wU 12 ?_;refine wU 13 ?_;refine wU 14 ?_;refine wU 15 ?_;refine wU 16 ?_;refine wU 17 ?_;refine wU 18 ?_;refine wU 19 ?_;refine wU 20 ?_;refine wU 21 ?_;refine wU 22 ?_;refine wU 23 ?_;refine wU 24 ?_;refine wV 25 ?_;refine wV 26 ?_
        refine wV 27 ?_;refine wV 28 ?_;refine wV 29 ?_;refine wV 30 ?_;refine wV 31 ?_;refine wV 32 ?_;refine wV 33 ?_;refine wV 34 ?_;refine wV 35 ?_;refine wU 36 ?_;refine wU 37 ?_;refine wU 38 ?_;refine wD ?_ _;clear hHeld;have mc:=hide (fH.out (iS.out H6.out (by rw [HA.out];show ar <= _;omega) (fun e=>by rw [HA.out] at e ⊢;exact absurd e.symm m2)));go_wp2_with fail;go_roundw
        case rel=>exact ⟨j+1,cj.out,by go_num,mc.out,cM.out.trans ((zd w7).mono cM.out.size)⟩
        case measure=>simp [intOf];have:=cj.out;omega
     ·obtain rfl:tp=0:=by rw [<- tZ.out];exact qh (by rw [HL.out];exact h7)
      have n0':=(HN.out _ cM.out).1;have Db:decide ((rn:Int) < (pvn:Int))=false:=decide_eq_false (by omega)
      have tR:¬ (rn:Int) < (pvn:Int):=by omega
      have KG:decide (lo < 2)=false:=G2;clear h7;by_cases hj0:j=0
      ·have Cs:=hide hj0;have k1:decide ((0:Int) < (j:Int))=false:=decide_eq_false (by omega);have k2:decide (0 < j)=false:=decide_eq_false (by omega);clear hj0;go_upto_region 19 with fail;refine wp_region_held_drew (S:=fun W=>(W.cell? ⟨G,1,none⟩=some (.slice (some ⟨q1,q2,none⟩) pcn pcc)/\W.cell? ⟨g,0,none⟩=some (.int .i64 (rn:Int))/\W.cell? ⟨g,1,none⟩=some (.int .i64 lo))) (by kernel_rfl) (aw.out _ (zd w7)) (fun hHeld=>?_);refine wU 0 ?_;refine wU 1 ?_;refine wU 2 ?_;refine wV 3 ?_;refine wV 4 ?_;refine wV 5 ?_;refine wV 6 ?_;refine wV 7 ?_;refine wV 8 ?_;refine wV 9 ?_;refine wV 10 ?_;refine wV 11 ?_;refine wV 12 ?_;refine wV 13 ?_;refine wV 14 ?_;refine wV 15 ?_;refine wV 16 ?_;refine wV 17 ?_;refine wV 18 ?_;refine wV 19 ?_;refine wV 20 ?_;refine wV 21 ?_;refine wV 22 ?_;refine wV 23 ?_;refine wV 24 ?_
       refine wV 25 ?_;refine wV 26 ?_;refine wV 27 ?_;refine wV 28 ?_;refine wV 29 ?_;refine wV 30 ?_;refine wV 31 ?_;refine wV 32 ?_;refine wV 33 ?_;refine wV 34 ?_;refine wV 35 ?_;refine wV 36 ?_;refine wV 37 ?_;refine wU 38 ?_;refine wD ?_ _;clear hHeld;have mc:=hide (fH.out (iS.out H6.out (by rw [show aX sn0 (pP.cloud.take j)=sn0 by rw [Cs.out];rfl];show (0:Int) <= _;omega) (fun e=>by rw [show aX sn0 (pP.cloud.take j)=sn0 by rw [Cs.out];rfl];show (0:Int)+2 <= lo;have:=fj;have:=H6.out;omega)));go_wp2_with fail;go_roundw
       case rel=>exact ⟨j+1,cj.out,by go_num,mc.out,cM.out.trans ((zd w7).mono cM.out.size)⟩
       case measure=>simp [intOf];have:=cj.out;omega
      ·obtain ⟨jj,uA⟩:∃ jj,j - 1=jj:=⟨_,rfl⟩
       have hz:IntKind.i64.wrap ((j:Int) - 1)=(jj:Int):=by rw [IntKind.wrap_i64];omega
       have iR:jj < pcn:=by have:=cj.out;omega
       have k1:decide ((0:Int) < (j:Int))=true:=decide_eq_true (by omega);have k2:decide (0 < j)=true:=decide_eq_true (by omega);obtain ⟨a,HA⟩:∃ a,Hid (aX sn0 (pP.cloud.take j)=a):=⟨_,rfl⟩
       have ha:pP.cloud.getD jj sn0=a:=by rw [<- HA.out,<- uA];exact (tH pP.cloud j (by omega) (by have:=Aq.out;omega)).symm
       have dW:=jR _ _ HI.out.1 (by decide) (by decide);rw [HA.out] at dW
       have oQ:Hid (∀ W,Below w7.heap.size w7 W -> W.cell? ⟨q1,q2+jj * 3,none⟩=some (.int .i64 a.rep)/\W.cell? ⟨q1,q2+jj * 3+2,none⟩=some (.int .i64 a.hi)):=fun W hW=>by
        obtain ⟨ad2,e2,A2⟩:=(ma.out.below (cM.out.trans (hW.mono cM.out.size))).at jj iR;obtain rfl:=Option.some.inj e2;rw [ha] at A2;rw [Addr.add_lit] at A2;exact ⟨A2.c0,A2.c2⟩
       clear hj0 uA ha;obtain ⟨ar,al,ah⟩:=a;dsimp only at oQ dW
       have MB:IntKind.i64.wrap (ah+2)=ah+2:=by rw [IntKind.wrap_i64];omega
       by_cases m1:(rn:Int) < ar
       ·have m1b:decide ((rn:Int) < ar)=true:=decide_eq_true m1;go_upto_region 19 with fail;refine wp_region_held_drew (S:=fun W=>(W.cell? ⟨G,1,none⟩=some (.slice (some ⟨q1,q2,none⟩) pcn pcc)/\W.cell? ⟨g,0,none⟩=some (.int .i64 (rn:Int))/\W.cell? ⟨g,1,none⟩=some (.int .i64 lo))/\W.cell? ⟨q1,q2+jj * 3,none⟩=some (.int .i64 ar)/\W.cell? ⟨q1,q2+jj * 3+2,none⟩=some (.int .i64 ah)) (by kernel_rfl) (⟨aw.out _ (zd w7),oQ.out _ (zd w7)⟩) (fun hHeld=>?_);refine wU 0 ?_;refine wU 1 ?_;refine wU 2 ?_;refine wU 3 ?_;refine wU 4 ?_;refine wU 5 ?_;refine wU 6 ?_;refine wU 7 ?_;refine wU 8 ?_;refine wU 9 ?_;refine wU 10 ?_;refine wU 11 ?_;refine wU 12 ?_;refine wU 13 ?_;refine wV 14 ?_;refine wV 15 ?_;refine wV 16 ?_;refine wV 17 ?_;refine wV 18 ?_;refine wV 19 ?_;refine wV 20 ?_;refine wV 21 ?_;refine wV 22 ?_
        refine wV 23 ?_;refine wV 24 ?_;refine wV 25 ?_;refine wV 26 ?_;refine wV 27 ?_;refine wV 28 ?_;refine wV 29 ?_;refine wV 30 ?_;refine wV 31 ?_;refine wV 32 ?_;refine wV 33 ?_;refine wV 34 ?_;refine wV 35 ?_;refine wV 36 ?_;refine wU 37 ?_;refine wU 38 ?_;refine wD ?_ _;clear hHeld;have HF:=hide (dP.out (rt.out _ HA.out (.inl m1)) _ (zd w7));go_wp2_with fail;go_ret;exact HF.out
       have m1b:decide ((rn:Int) < ar)=false:=decide_eq_false m1;by_cases m2:ar=(rn:Int)
       ·have m2b:(ar == (rn:Int))=true:=by simpa using m2
        by_cases m3:lo < ah+2
        ·have m3b:decide (lo < ah+2)=true:=decide_eq_true m3;go_upto_region 19 with fail;refine wp_region_held_drew (S:=fun W=>(W.cell? ⟨G,1,none⟩=some (.slice (some ⟨q1,q2,none⟩) pcn pcc)/\W.cell? ⟨g,0,none⟩=some (.int .i64 (rn:Int))/\W.cell? ⟨g,1,none⟩=some (.int .i64 lo))/\W.cell? ⟨q1,q2+jj * 3,none⟩=some (.int .i64 ar)/\W.cell? ⟨q1,q2+jj * 3+2,none⟩=some (.int .i64 ah)) (by kernel_rfl) (⟨aw.out _ (zd w7),oQ.out _ (zd w7)⟩) (fun hHeld=>?_);refine wU 0 ?_;refine wU 1 ?_;refine wU 2 ?_;refine wU 3 ?_;refine wU 4 ?_;refine wU 5 ?_;refine wU 6 ?_;refine wU 7 ?_;refine wU 8 ?_;refine wU 9 ?_;refine wU 10 ?_;refine wU 11 ?_;refine wU 12 ?_;refine wU 13 ?_;refine wU 14 ?_;refine wU 15 ?_;refine wU 16 ?_;refine wU 17 ?_;refine wU 18 ?_;refine wU 19 ?_;refine wU 20 ?_;refine wU 21 ?_;refine wU 22 ?_;refine wU 23 ?_
         refine wU 24 ?_;refine wU 25 ?_;refine wU 26 ?_;refine wU 27 ?_;refine wU 28 ?_;refine wU 29 ?_;refine wU 30 ?_;refine wU 31 ?_;refine wU 32 ?_;refine wU 33 ?_;refine wU 34 ?_;refine wU 35 ?_;refine wU 36 ?_;refine wU 37 ?_;refine wU 38 ?_;refine wD ?_ _;clear hHeld;have HF:=hide (dP.out (rt.out _ HA.out (.inr ⟨m2,m3⟩)) _ (zd w7));go_wp2_with fail;go_ret;exact HF.out
        ·have m3b:decide (lo < ah+2)=false:=decide_eq_false m3;go_upto_region 19 with fail;refine wp_region_held_drew (S:=fun W=>(W.cell? ⟨G,1,none⟩=some (.slice (some ⟨q1,q2,none⟩) pcn pcc)/\W.cell? ⟨g,0,none⟩=some (.int .i64 (rn:Int))/\W.cell? ⟨g,1,none⟩=some (.int .i64 lo))/\W.cell? ⟨q1,q2+jj * 3,none⟩=some (.int .i64 ar)/\W.cell? ⟨q1,q2+jj * 3+2,none⟩=some (.int .i64 ah)) (by kernel_rfl) (⟨aw.out _ (zd w7),oQ.out _ (zd w7)⟩) (fun hHeld=>?_);refine wU 0 ?_;refine wU 1 ?_;refine wU 2 ?_;refine wU 3 ?_;refine wU 4 ?_;refine wU 5 ?_;refine wU 6 ?_;refine wU 7 ?_;refine wU 8 ?_;refine wU 9 ?_;refine wU 10 ?_;refine wU 11 ?_;refine wU 12 ?_;refine wU 13 ?_;refine wU 14 ?_;refine wU 15 ?_;refine wU 16 ?_;refine wU 17 ?_;refine wU 18 ?_;refine wU 19 ?_;refine wU 20 ?_;refine wU 21 ?_;refine wU 22 ?_
         refine wU 23 ?_;refine wU 24 ?_;refine wU 25 ?_;refine wU 26 ?_;refine wU 27 ?_;refine wU 28 ?_;refine wU 29 ?_;refine wU 30 ?_;refine wU 31 ?_;refine wU 32 ?_;refine wU 33 ?_;refine wU 34 ?_;refine wU 35 ?_;refine wU 36 ?_;refine wU 37 ?_;refine wU 38 ?_;refine wD ?_ _;clear hHeld;have mc:=hide (fH.out (iS.out H6.out (by rw [HA.out];show ar <= _;omega) (fun e=>by rw [HA.out] at e ⊢;show ah+2 <= lo;omega)));go_wp2_with fail;go_roundw
         case rel=>exact ⟨j+1,cj.out,by go_num,mc.out,cM.out.trans ((zd w7).mono cM.out.size)⟩
         case measure=>simp [intOf];have:=cj.out;omega
       ·have m2b:(ar == (rn:Int))=false:=by simpa using m2
        go_upto_region 19 with fail;refine wp_region_held_drew (S:=fun W=>(W.cell? ⟨G,1,none⟩=some (.slice (some ⟨q1,q2,none⟩) pcn pcc)/\W.cell? ⟨g,0,none⟩=some (.int .i64 (rn:Int))/\W.cell? ⟨g,1,none⟩=some (.int .i64 lo))/\W.cell? ⟨q1,q2+jj * 3,none⟩=some (.int .i64 ar)/\W.cell? ⟨q1,q2+jj * 3+2,none⟩=some (.int .i64 ah)) (by kernel_rfl) (⟨aw.out _ (zd w7),oQ.out _ (zd w7)⟩) (fun hHeld=>?_);refine wU 0 ?_;refine wU 1 ?_;refine wU 2 ?_;refine wU 3 ?_;refine wU 4 ?_;refine wU 5 ?_;refine wU 6 ?_;refine wU 7 ?_;refine wU 8 ?_;refine wU 9 ?_;refine wU 10 ?_;refine wU 11 ?_;refine wU 12 ?_;refine wU 13 ?_;refine wU 14 ?_;refine wU 15 ?_;refine wU 16 ?_;refine wU 17 ?_;refine wU 18 ?_;refine wU 19 ?_;refine wU 20 ?_;refine wU 21 ?_;refine wU 22 ?_;refine wU 23 ?_;refine wU 24 ?_;refine wV 25 ?_;refine wV 26 ?_
        refine wV 27 ?_;refine wV 28 ?_;refine wV 29 ?_;refine wV 30 ?_;refine wV 31 ?_;refine wV 32 ?_;refine wV 33 ?_;refine wV 34 ?_;refine wV 35 ?_;refine wU 36 ?_;refine wU 37 ?_;refine wU 38 ?_;refine wD ?_ _;clear hHeld;have mc:=hide (fH.out (iS.out H6.out (by rw [HA.out];show ar <= _;omega) (fun e=>by rw [HA.out] at e ⊢;exact absurd e.symm m2)));go_wp2_with fail;go_roundw
        case rel=>exact ⟨j+1,cj.out,by go_num,mc.out,cM.out.trans ((zd w7).mono cM.out.size)⟩
        case measure=>simp [intOf];have:=cj.out;omega
    ·obtain rfl:pcn=j:=by omega
     have HY:Hid (dr w w6 (.returned (.bool true)) (af pP)):=⟨true,rfl,BIf.yes ⟨HV.out,by
      have:=HI.out.1;rw [List.take_of_length_le (by rw [IT.out];exact Nat.le_refl _)] at this
      exact this⟩,az.out.trans (HI.out.2.mono az.out.size)⟩
     go_wp2_with fail;go_ret;exact HY.out
end Go.Proofs.YtcilfelgpmfehaaGreat
