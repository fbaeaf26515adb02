/- HHo -/
import Derived.Test.YtaphmhbmhcahaabGreatTk
import Derived.Test.YtaphmhbmhcahaabGreatSn24
import Derived.Test.YtaphmhbmhcahaabGreatSn15
set_option maxRecDepth 100000
set_option maxHeartbeats 3200000
namespace Go.Proofs.YtaphmhbmhcahaabGreat
open Go.RowKit
attribute [local go_sem ↓] ldP_eq stP_eq ldS_eq stS_eq
attribute [local go_sem] cells_PV PC_size cells_SV SC_size
def HoB (P:Pst) (y:Nat) (hi:Int) (b:Bool):Prop:=b=true↔hi <= P.vec.getD y 0
theorem holds_any (p:Pv) (y:Nat) (lo hi:Int) (w:World) (hS:PSrc w p) (hf:InForm p.P) (hy:y < 16) (h1:1 <= lo) (h2:lo <= hi) (h3:hi <= 1000000000) :
  Calls Tryz.prog 85 #[PV p,SV ⟨(y:Int),lo,hi⟩] w fun e w'=>GivesB w w' e (spIn p.P ⟨(y:Int),lo,hi⟩):=by
 obtain ⟨t,Ht⟩:∃ t:Sn,Hid (t=⟨(y:Int),lo,hi⟩):=⟨_,rfl⟩;have b1:=below_new w (.cells (PC p) 26);have x1:=pbox_new w p;have s1:=World.size_alloc w (.cells (PC p) 26);obtain ⟨w1,hw1⟩:∃ w1,w.alloc (.cells (PC p) 26)=w1:=⟨_,rfl⟩;obtain ⟨g1,hg1⟩:∃ g1,w.heap.size=g1:=⟨_,rfl⟩;rw [hw1] at b1 x1 s1;rw [hg1] at x1 s1;have b2:=below_new w1 (.cells (SC ⟨(y:Int),lo,hi⟩) 93);have x2:=sbox_new w1 ⟨(y:Int),lo,hi⟩;obtain ⟨w2,hw2⟩:∃ w2,w1.alloc (.cells (SC ⟨(y:Int),lo,hi⟩) 93)=w2:=⟨_,rfl⟩;rw [hw2] at b2 x2;rw [s1] at x2;have HB:=hide (b1.trans (b2.mono b1.size));have HX:Hid (PBox w2 g1 p/\SBox w2 (g1+1) ⟨(y:Int),lo,hi⟩):=⟨x1.below b2,x2⟩;have HS:=hide (hS.below HB.out);have HF:=hide hf;have HBd:Hid (y < 16/\1 <= lo/\lo <= hi/\hi <= 1000000000):=⟨hy,h1,h2,h3⟩;have HVN:Hid (p.P.vec.length=p.vn):=hS.vec.1
 have HCN:Hid (p.P.cloud.length=p.cn):=hS.cloud.len;clear b1 b2 x1 x2 hS hf h1 h2 h3
 have HSt:Hid (∀ W,Below w2.heap.size w2 W -> W.cell? ⟨g1,0,none⟩=some (.slice p.vo p.vn p.vc)/\W.cell? ⟨g1+1,0,none⟩=some (.int .i64 (y:Int))/\W.cell? ⟨g1+1,2,none⟩=some (.int .i64 hi)):=fun W hW=>by
  obtain ⟨c0,-,c2⟩:=(HX.out.2.below hW).at
  exact ⟨(HX.out.1.below hW).nums.1,c0,c2⟩
 go_enter Tryz.func85,Tryz.ntmps85;go_upto_region 1 with fail;clear hw1 hw2 s1 hg1
 go_cut [23] from 7 to 22 (fun v W=>∃ b:Bool,v = .bool b/\Hid (HoB p.P y hi b/\Below w2.heap.size w2 W))
 case first =>
  by_cases hv:y < p.vn
  ·have hvi:(y:Int) < (p.vn:Int):=by omega
   obtain ⟨ad,hao,cz⟩:=isrc_at HS.out.vec y hv;obtain ⟨z,Hz⟩:∃ z,Hid (p.P.vec.getD y 0=z):=⟨_,rfl⟩;rw [Hz.out] at cz;have Hao:=hide hao;have HCz:=hide cz
   have HSv:Hid (∀ W,Below w2.heap.size w2 W -> W.cell? ⟨g1,0,none⟩=some (.slice (some ad) p.vn p.vc)/\W.cell? ⟨g1+1,0,none⟩=some (.int .i64 (y:Int))/\W.cell? ⟨g1+1,2,none⟩=some (.int .i64 hi)/\W.cell? (ad.add y)=some (.int .i64 z)):=fun W hW=>by
    obtain ⟨c0,c1,c2⟩:=HSt.out W hW;rw [Hao.out] at c0;exact ⟨c0,c1,c2,(hW.cell (World.block_lt_of_cell? _ _ HCz.out)).trans HCz.out⟩
   clear cz hao;refine wp_region_held_drew (S:=fun W=>W.cell? ⟨g1,0,none⟩=some (.slice (some ad) p.vn p.vc)/\W.cell? ⟨g1+1,0,none⟩=some (.int .i64 (y:Int))/\W.cell? ⟨g1+1,2,none⟩=some (.int .i64 hi)/\W.cell? (ad.add y)=some (.int .i64 z)) (by kernel_rfl) (HSv.out _ (below_drew1 w2)) (fun hHeld=>?_);refine wU 0 ?_;refine wU 1 ?_;refine wU 2 ?_;refine wU 3 ?_;refine wU 4 ?_;refine wU 5 ?_;refine wU 6 ?_;refine wU 7 ?_;refine wU 8 ?_;refine wU 9 ?_;refine wU 10 ?_;refine wU 11 ?_;refine wU 12 ?_;refine wU 13 ?_;refine wU 14 ?_;refine wU 15 ?_;refine wU 16 ?_;refine wpAnyH_done (by kernel_rfl) ?_ _;clear hHeld;by_cases hc:hi <= z
   ·have HE:Hid (HoB p.P y hi true/\Below w2.heap.size w2 w2.drew):=⟨⟨fun _=>by rw [Hz.out];exact hc,fun _=>rfl⟩,below_drew1 w2⟩;go_wp2_with fail;go_meet
    case rel=>exact ⟨true,by simp [hc],HE.out⟩
   ·have HE:Hid (HoB p.P y hi false/\Below w2.heap.size w2 w2.drew):=⟨⟨fun h=>(by cases h),fun h=>absurd (by rwa [Hz.out] at h) hc⟩,below_drew1 w2⟩;go_wp2_with fail;go_meet
    case rel=>exact ⟨false,by simp [hc],HE.out⟩
  ·have hvi:¬ (y:Int) < (p.vn:Int):=by omega
   have HE:Hid (HoB p.P y hi false/\Below w2.heap.size w2 w2.drew):=⟨⟨fun h=>(by cases h),fun h=>by
    rw [List.getD_eq_getElem?_getD,List.getElem?_eq_none (by rw [HVN.out];omega)] at h;have h:hi <= 0:=h;have:=HBd.out
    omega⟩,below_drew1 w2⟩
   refine wp_region_held_drew (S:=fun W=>W.cell? ⟨g1,0,none⟩=some (.slice p.vo p.vn p.vc)/\W.cell? ⟨g1+1,0,none⟩=some (.int .i64 (y:Int))/\W.cell? ⟨g1+1,2,none⟩=some (.int .i64 hi)) (by kernel_rfl) (HSt.out _ (below_drew1 w2)) (fun hHeld=>?_);refine wU 0 ?_;refine wU 1 ?_;refine wU 2 ?_;refine wU 3 ?_;refine wU 4 ?_;refine wU 5 ?_;refine wU 6 ?_;refine wV 7 ?_;refine wV 8 ?_;refine wV 9 ?_;refine wV 10 ?_;refine wV 11 ?_;refine wV 12 ?_;refine wV 13 ?_;refine wV 14 ?_;refine wV 15 ?_;refine wU 16 ?_;refine wpAnyH_done (by kernel_rfl) ?_ _;clear hHeld;go_wp2_with fail;go_meet
   case rel=>exact ⟨false,rfl,HE.out⟩
 case rest =>
  obtain ⟨b,rfl,HV⟩:=hcut
  rename World=>w3
  cases b with
  | true =>
   have HE:Hid (GivesB w w3 (.returned (.bool true)) (spIn p.P ⟨(y:Int),lo,hi⟩)):=⟨true,rfl,⟨fun _=>hold_vec HBd.out.1 HBd.out.2.1 HBd.out.2.2.2 (HV.out.1.1 rfl),fun _=>rfl⟩,HB.out.trans (HV.out.2.mono HB.out.size)⟩;go_wp2_with fail;go_ret;exact HE.out
  | false =>
   have HNv:Hid (¬ hi <= p.P.vec.getD y 0):=fun h=>by have:=HV.out.1.2 h;cases this
   have n1:=(HX.out.1.below HV.out.2).nums.2;have ls:=run_ldS (HX.out.2.below HV.out.2).sn;go_wp2_with fail;clear n1 ls;refine (bsS_any p.co p.cn p.cc p.P.cloud ⟨(y:Int),lo,hi⟩ _ (HS.out.below HV.out.2).cloud (fun a b hab hb=>near_mono HF.out _ a b hab (by rw [HCN.out];exact hb))).mono ?_;rintro e w4 ⟨i,q,rfl,hF,b4⟩;have HB4:=hide (HV.out.2.trans (b4.mono HV.out.2.size));have HI:=hide (hold_iff HF.out HCN.out HBd.out.1 HBd.out.2.1 HBd.out.2.2.1 HBd.out.2.2.2 hF HNv.out);have hin:i <= p.cn:=hF.1;have hnb:p.cn <= 5864062014805:=HS.out.cloud.big
   have HSu:Hid (∀ W,Below w4.heap.size w4 W -> W.cell? ⟨g1,1,none⟩=some (.slice p.co p.cn p.cc)/\W.cell? ⟨g1+1,0,none⟩=some (.int .i64 (y:Int))/\W.cell? ⟨g1+1,1,none⟩=some (.int .i64 lo)):=fun W hW=>by
    have hW2:=HB4.out.trans (hW.mono HB4.out.size)
    obtain ⟨c0,c1,-⟩:=(HX.out.2.below hW2).at
    exact ⟨(HX.out.1.below hW2).nums.2,c0,c1⟩
   have HBw:=wTr HB HB4.out;clear hF b4;by_cases hlt:i < p.cn
   ·have hlti:(i:Int) < (p.cn:Int):=by omega
    obtain ⟨ad,hao,A0⟩:=(HS.out.below HB4.out).cloud.at i hlt;obtain ⟨s,Hs⟩:∃ s,Hid (p.P.cloud.getD i sn0=s):=⟨_,rfl⟩;rw [Hs.out] at A0
    obtain ⟨b1,o1,rfl⟩:∃ b1 o1,ad=⟨b1,o1,none⟩:=by
     have h:=(HS.out.below HB4.out).cloud;rw [hao] at h;exact h.spot (by omega)
    rw [Addr.add_lit] at A0;have Hao:=hide hao;have HA0:=hide A0
    have HSw:Hid (∀ W,Below w4.heap.size w4 W -> W.cell? ⟨g1,1,none⟩=some (.slice (some ⟨b1,o1,none⟩) p.cn p.cc)/\W.cell? ⟨g1+1,0,none⟩=some (.int .i64 (y:Int))/\W.cell? ⟨g1+1,1,none⟩=some (.int .i64 lo)/\W.cell? ⟨b1,o1+i * 3,none⟩=some (.int .i64 s.rep)/\W.cell? ⟨b1,o1+i * 3+1,none⟩=some (.int .i64 s.lo)):=fun W hW=>by
     obtain ⟨c0,c1,c2⟩:=HSu.out W hW;rw [Hao.out] at c0;have h:=HA0.out.on hW;have h1:=h.c1;rw [Addr.add_lit] at h1;exact ⟨c0,c1,c2,h.c0,h1⟩
    clear A0 hao;by_cases e1:s.rep=(y:Int)
    ·by_cases e2:s.lo <= lo
     ·have HE:Hid (∀ W,Below w4.heap.size w4 W -> GivesB w W (.returned (.bool true)) (spIn p.P ⟨(y:Int),lo,hi⟩)):=fun W hW=>⟨true,rfl,⟨fun _=>HI.out.1 (by rw [Hs.out];exact ⟨hlt,e1,e2⟩),fun _=>rfl⟩,HBw.out.trans (hW.mono HBw.out.size)⟩
      have eb:((s.rep:Int) == (y:Int))=true:=by rw [e1];simp
      have ed:decide (s.lo <= lo)=true:=decide_eq_true e2;clear e1;go_upto_region 4 with fail;refine wp_region_held_drew (S:=fun W=>W.cell? ⟨g1,1,none⟩=some (.slice (some ⟨b1,o1,none⟩) p.cn p.cc)/\W.cell? ⟨g1+1,0,none⟩=some (.int .i64 (y:Int))/\W.cell? ⟨g1+1,1,none⟩=some (.int .i64 lo)/\W.cell? ⟨b1,o1+i * 3,none⟩=some (.int .i64 s.rep)/\W.cell? ⟨b1,o1+i * 3+1,none⟩=some (.int .i64 s.lo)) (by kernel_rfl) (HSw.out _ (below_drew1 w4)) (fun hHeld=>?_);refine wU 0 ?_;refine wU 1 ?_;refine wU 2 ?_;refine wU 3 ?_;refine wU 4 ?_;refine wU 5 ?_;refine wU 6 ?_;refine wU 7 ?_;refine wU 8 ?_;refine wU 9 ?_;refine wU 10 ?_;refine wU 11 ?_;refine wU 12 ?_;refine wU 13 ?_;refine wU 14 ?_;refine wU 15 ?_;refine wU 16 ?_;refine wU 17 ?_;refine wU 18 ?_;refine wU 19 ?_;refine wU 20 ?_;refine wU 21 ?_;refine wU 22 ?_;refine wU 23 ?_
      refine wU 24 ?_;refine wU 25 ?_;refine wU 26 ?_;refine wU 27 ?_;refine wpAnyH_done (by kernel_rfl) ?_ _;clear hHeld;go_wp2_with fail;go_ret;exact HE.out _ (below_drew1 w4)
     ·have HE:Hid (∀ W,Below w4.heap.size w4 W -> GivesB w W (.returned (.bool false)) (spIn p.P ⟨(y:Int),lo,hi⟩)):=fun W hW=>⟨false,rfl,⟨fun h=>(by cases h),fun h=>absurd (by have:=(HI.out.2 h).2.2;rwa [Hs.out] at this) e2⟩,HBw.out.trans (hW.mono HBw.out.size)⟩
      have eb:((s.rep:Int) == (y:Int))=true:=by rw [e1];simp
      have ed:decide (s.lo <= lo)=false:=decide_eq_false e2;clear e1;go_upto_region 4 with fail;refine wp_region_held_drew (S:=fun W=>W.cell? ⟨g1,1,none⟩=some (.slice (some ⟨b1,o1,none⟩) p.cn p.cc)/\W.cell? ⟨g1+1,0,none⟩=some (.int .i64 (y:Int))/\W.cell? ⟨g1+1,1,none⟩=some (.int .i64 lo)/\W.cell? ⟨b1,o1+i * 3,none⟩=some (.int .i64 s.rep)/\W.cell? ⟨b1,o1+i * 3+1,none⟩=some (.int .i64 s.lo)) (by kernel_rfl) (HSw.out _ (below_drew1 w4)) (fun hHeld=>?_);refine wU 0 ?_;refine wU 1 ?_;refine wU 2 ?_;refine wU 3 ?_;refine wU 4 ?_;refine wU 5 ?_;refine wU 6 ?_;refine wU 7 ?_;refine wU 8 ?_;refine wU 9 ?_;refine wU 10 ?_;refine wU 11 ?_;refine wU 12 ?_;refine wU 13 ?_;refine wU 14 ?_;refine wU 15 ?_;refine wU 16 ?_;refine wU 17 ?_;refine wU 18 ?_;refine wU 19 ?_;refine wU 20 ?_;refine wU 21 ?_;refine wU 22 ?_;refine wU 23 ?_
      refine wU 24 ?_;refine wU 25 ?_;refine wU 26 ?_;refine wU 27 ?_;refine wpAnyH_done (by kernel_rfl) ?_ _;clear hHeld;go_wp2_with fail;go_ret;exact HE.out _ (below_drew1 w4)
    ·have HE:Hid (∀ W,Below w4.heap.size w4 W -> GivesB w W (.returned (.bool false)) (spIn p.P ⟨(y:Int),lo,hi⟩)):=fun W hW=>⟨false,rfl,⟨fun h=>(by cases h),fun h=>absurd (by have:=(HI.out.2 h).2.1;rwa [Hs.out] at this) e1⟩,HBw.out.trans (hW.mono HBw.out.size)⟩
     have eb:((s.rep:Int) == (y:Int))=false:=by rw [beq_eq_false_iff_ne];exact e1
     clear e1;go_upto_region 4 with fail;refine wp_region_held_drew (S:=fun W=>W.cell? ⟨g1,1,none⟩=some (.slice (some ⟨b1,o1,none⟩) p.cn p.cc)/\W.cell? ⟨g1+1,0,none⟩=some (.int .i64 (y:Int))/\W.cell? ⟨g1+1,1,none⟩=some (.int .i64 lo)/\W.cell? ⟨b1,o1+i * 3,none⟩=some (.int .i64 s.rep)/\W.cell? ⟨b1,o1+i * 3+1,none⟩=some (.int .i64 s.lo)) (by kernel_rfl) (HSw.out _ (below_drew1 w4)) (fun hHeld=>?_);refine wU 0 ?_;refine wU 1 ?_;refine wU 2 ?_;refine wU 3 ?_;refine wU 4 ?_;refine wU 5 ?_;refine wU 6 ?_;refine wU 7 ?_;refine wU 8 ?_;refine wU 9 ?_;refine wU 10 ?_;refine wU 11 ?_;refine wU 12 ?_;refine wU 13 ?_;refine wU 14 ?_;refine wU 15 ?_;refine wU 16 ?_;refine wV 17 ?_;refine wV 18 ?_;refine wV 19 ?_;refine wV 20 ?_;refine wV 21 ?_;refine wV 22 ?_;refine wV 23 ?_;refine wV 24 ?_;refine wV 25 ?_;refine wU 26 ?_;refine wU 27 ?_
     refine wpAnyH_done (by kernel_rfl) ?_ _;clear hHeld;go_wp2_with fail;go_ret;exact HE.out _ (below_drew1 w4)
   ·have hlti:¬ (i:Int) < (p.cn:Int):=by omega
    have HE:Hid (∀ W,Below w4.heap.size w4 W -> GivesB w W (.returned (.bool false)) (spIn p.P ⟨(y:Int),lo,hi⟩)):=fun W hW=>⟨false,rfl,⟨fun h=>(by cases h),fun h=>absurd (HI.out.2 h).1 hlt⟩,HBw.out.trans (hW.mono HBw.out.size)⟩;go_upto_region 4 with fail;refine wp_region_held_drew (S:=fun W=>W.cell? ⟨g1,1,none⟩=some (.slice p.co p.cn p.cc)/\W.cell? ⟨g1+1,0,none⟩=some (.int .i64 (y:Int))/\W.cell? ⟨g1+1,1,none⟩=some (.int .i64 lo)) (by kernel_rfl) (HSu.out _ (below_drew1 w4)) (fun hHeld=>?_);refine wU 0 ?_;refine wU 1 ?_;refine wU 2 ?_;refine wU 3 ?_;refine wU 4 ?_;refine wU 5 ?_;refine wV 6 ?_;refine wV 7 ?_;refine wV 8 ?_;refine wV 9 ?_;refine wV 10 ?_;refine wV 11 ?_;refine wV 12 ?_;refine wV 13 ?_;refine wV 14 ?_;refine wU 15 ?_;refine wU 16 ?_;refine wV 17 ?_;refine wV 18 ?_;refine wV 19 ?_;refine wV 20 ?_;refine wV 21 ?_
    refine wV 22 ?_;refine wV 23 ?_;refine wV 24 ?_;refine wV 25 ?_;refine wU 26 ?_;refine wU 27 ?_;refine wpAnyH_done (by kernel_rfl) ?_ _;clear hHeld;go_wp2_with fail;go_ret;exact HE.out _ (below_drew1 w4)
end Go.Proofs.YtaphmhbmhcahaabGreat
