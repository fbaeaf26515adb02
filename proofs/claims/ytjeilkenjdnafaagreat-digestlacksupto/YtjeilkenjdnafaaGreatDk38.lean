/- SXf LFnd LFn2 SXg BCs SXj SXy SYa -/
import Derived.Test.YtjeilkenjdnafaaGreatTk
import Derived.Test.YtjeilkenjdnafaaGreatDk34
import Derived.Test.YtjeilkenjdnafaaGreatDk37
import Derived.Test.YtjeilkenjdnafaaGreatDk33
import Derived.Test.YtjeilkenjdnafaaGreatDk35
import Derived.Test.YtjeilkenjdnafaaGreatDk12
import Derived.Test.YtjeilkenjdnafaaGreatDk36
import Derived.Test.YtjeilkenjdnafaaGreatDk25
import Derived.Test.YtjeilkenjdnafaaGreatDk30
import Derived.Test.YtjeilkenjdnafaaGreatDk26
import Derived.Test.YtjeilkenjdnafaaGreatDk18
import Derived.Test.YtjeilkenjdnafaaGreatDk09
set_option maxRecDepth 100000
set_option maxHeartbeats 6400000
namespace Go.Proofs.YtjeilkenjdnafaaGreat
open Go.RowKit
theorem within_sx {L:List K.En} {D P:Pst} (hL:K.chk L=0) (hC:CanonOf (dotsG (L.map dotOf)) D):wiP D P↔∀ e∈L,inB P e=true:=by
 constructor
 ·intro h e he;have ho:=ce_dot (chk_ce hL e he);have h3:=ho;unfold okD at h3;rw [Bool.and_eq_true] at h3;have h4:V.isR e.rep=true:=h3.1
  have h5:0 <= e.rep/\e.rep < 16:=by simpa [V.isR] using h4
  have hr:e.rep.toNat < 16:=by omega
  rw [inB_iff];exact ⟨h4,h _ hr _ ((canon_mem hC _ hr _).2 ((dotsG_mem _ _ _).2 ⟨dotOf e,List.mem_map.2 ⟨e,he,rfl⟩,ho,by show e.rep=((e.rep.toNat:Nat):Int);omega,rfl⟩))⟩
 ·intro h r hr n hm;obtain ⟨d,hd,ho,hl,hh⟩:=(dotsG_mem _ _ _).1 ((canon_mem hC r hr n).1 hm);obtain ⟨e,he,rfl⟩:=List.mem_map.1 hd;have h2:=(inB_iff _ _).1 (h e he);have h3:mem (runsAt P e.rep.toNat) e.num:=h2.2;have e1:e.rep=(r:Int):=hl;have e2:e.num=n:=hh;rw [e1,e2] at h3;simpa using h3
def RcI (s:Fc) (k:Nat):Prop:=∀ j,j < k -> ¬ wiP (s.rs.getD j rc0).p.P s.p.P/\∀ e∈s.es,covB (s.rs.getD j rc0) e=false
theorem RcI.done {s:Fc} (h:RcI s s.rs.length):(∀ r∈s.rs,¬ wiP r.p.P s.p.P)/\∀ e∈s.es,freeB s.rs e=true:=by
 have g:∀ r∈s.rs,¬ wiP r.p.P s.p.P/\∀ e∈s.es,covB r e=false:=fun r hr=>by
  obtain ⟨j,hj,rfl⟩:=List.getElem_of_mem hr;have:=h j hj;rw [rcD_at hj] at this;exact this
 refine ⟨fun r hr=>(g r hr).1,fun e he=>?_⟩;unfold freeB;rw [Bool.not_eq_true',List.any_eq_false];intro r hr hc;rw [(g r hr).2 e he] at hc
 cases hc
theorem free_no {s:Fc} {j l:Nat} (hj:j < s.rs.length) (hl:l < s.es.length) (h:covB (s.rs.getD j rc0) (s.es.getD l K.en0)=true):¬ ∀ e∈s.es,freeB s.rs e=true:=by
 intro k
 have he:s.es.getD l K.en0∈s.es:=by
  rw [List.getD_eq_getElem?_getD,List.getElem?_eq_getElem hl];exact List.getElem_mem hl
 have h1:=k _ he;unfold freeB at h1;rw [Bool.not_eq_true',List.any_eq_false] at h1;exact h1 _ (rcD_mem hj) h
attribute [local go_sem ↓] ldP_eq stP_eq ldSw_eq stSw_eq ldRe_eq stRe_eq K.ld28_eq K.st28_eq
attribute [local go_sem] cells_PV PC_size cells_FaV FaC_size cells_ReV ReC_size K.cells_EV K.EC_size
theorem refInForm_any (s:Fc) (w:World) (hF:FcOk w s):Calls Tryz.prog 26 #[FaV (mkF s)] w fun e w'=>GivB w w' e (FormS s):=by
 have b1:=below_new w (.cells (FaC (mkF s)) 31);have X1:=SwBox_new w (mkF s);obtain ⟨wk,hwk⟩:∃ w1,w.alloc (.cells (FaC (mkF s)) 31)=w1:=⟨_,rfl⟩;rw [hwk] at b1 X1;obtain ⟨G,hG0⟩:∃ G,w.heap.size=G:=⟨_,rfl⟩;rw [hG0] at X1;have HX:=hide X1;have HBK:=hide b1;have HF:=hide (hF.below b1);have HLn:Hid (s.es.length=s.an/\s.rs.length=s.rn):=⟨hF.es.1,hF.rs.len⟩;have HNo:Hid (∀ W,Below wk.heap.size wk W -> ¬ FormS s -> GivB w W (.returned (.bool false)) (FormS s)):=fun W hW h=>⟨false,rfl,⟨fun k=>(by cases k),fun k=>absurd k h⟩,b1.trans (hW.mono b1.size)⟩;clear hF b1 X1;obtain ⟨c0,c3⟩:=HX.out.cs;have lp:=run_ldP HX.out.past;go_enter Tryz.func26,Tryz.ntmps26;go_wp2_with fail;clear hwk hG0 c0 c3 lp;refine (K.refEntries_any s.ao s.an s.ac s.es _ HF.out.es).mono ?_;rintro e w3 ⟨rfl,b3⟩;have HB3:=hide b3;clear b3
 cases he:K.okN s.es s.an with
 | false =>
  have HE:=hide (HNo.out _ HB3.out (fun h=>by have:=h.1.1;rw [he] at this;cases this));clear he;go_wp2_with fail;go_ret;exact HE.out
 | true =>
 have HE0:=hide he;clear he;obtain ⟨c0,c3⟩:=(HX.out.below HB3.out).cs;have lp:=run_ldP (HX.out.below HB3.out).past;go_wp2_with fail;clear c0 c3 lp;refine (refIsNorm_any s.p _ (HF.out.p.below HB3.out)).mono ?_;rintro e w4 ⟨v,rfl,hv,b4⟩;have HB4:=wTr HB3 b4;clear b4
 cases v with
 | false =>
  have HE:=hide (HNo.out _ HB4.out (fun h=>by have:=hv.2 h.1.2.1;cases this));clear hv;go_wp2_with fail;go_ret;exact HE.out
 | true =>
 have HI0:=hide (hv.1 rfl);clear hv;obtain ⟨c0,c3⟩:=(HX.out.below HB4.out).cs;go_wp2_with fail;clear c0 c3;refine (refRecords_any s.ro s.rn s.rc s.rs _ (HF.out.rs.below HB4.out)).mono ?_;rintro e w5 ⟨v,rfl,hv,b5⟩;have HB5:=wTr HB4 b5;clear b5
 cases v with
 | false =>
  have HE:=hide (HNo.out _ HB5.out (fun h=>by have:=hv.2 h.1.2.2;cases this));clear hv;go_wp2_with fail;go_ret;exact HE.out
 | true =>
 have HO0:=hide (hv.1 rfl);clear hv;have HSt:Hid (∀ W,Below wk.heap.size wk W -> W.cell? ⟨G,0,none⟩=some (.slice s.ao s.an s.ac)/\(ldP (.pointer (some ⟨G,1,none⟩))).run Tryz.prog W = .ok (PV s.p) W):=fun W h=>⟨(HX.out.below h).cs.1,run_ldP (HX.out.below h).past⟩;have HBd:=hide (HB5.out.trans ((below_drew1 w5).mono HB5.out.size));go_upto_region 3 with fail;refine wp_region_held_drew (S:=fun W=>W.cell? ⟨G,0,none⟩=some (.slice s.ao s.an s.ac)/\(ldP (.pointer (some ⟨G,1,none⟩))).run Tryz.prog W = .ok (PV s.p) W) (by kernel_rfl) (HSt.out _ HBd.out) (fun hHeld=>?_);refine wU 0 ?_;refine wU 1 ?_;refine wU 3 ?_;refine wU 4 ?_;refine wpAnyH_ready (rs:=[2]) (by kernel_rfl) (by simp) (.cons rfl (fun K hK=>?_) .nil);go_simp;go_wp2_with fail;refine (refDots8_any s.ao s.an s.ac s.es ⟨#[]⟩ (-1) _ (HF.out.es.below HBd.out)).mono ?_;rintro x w6 ⟨d,rfl,Sd,-,b6,Cd⟩
 rw [dsB_all] at Cd;have HB6:=wTr HBd b6;have HD:=hide Sd;have HCd:=hide Cd;clear Sd Cd b6;refine hK.out _ _ (HSt.out _ HB6.out) (fun hHeld=>?_);clear hK K;refine wpAnyH_ready (rs:=[5]) (by kernel_rfl) (by simp) (.cons rfl (fun K hK=>?_) .nil);go_simp;go_wp2_with fail;refine (refWithin_any d s.p _ HD.out (HF.out.p.below HB6.out)).mono ?_;rintro x w7 ⟨v,rfl,hv,b7⟩;have HB7:=wTr HB6 b7;have HV:Hid (v=true↔∀ e∈s.es,inB s.p.P e=true):=(show v=true↔wiP d.P s.p.P from hv).trans (within_sx ((chk_okS HLn.out.1).2 HE0.out) HCd.out);clear hv b7;refine hK.out _ _ (HSt.out _ HB7.out) (fun hHeld=>?_);clear hK K;refine wU 6 ?_;refine wpAnyH_done (by kernel_rfl) ?_ _;clear hHeld
 cases v with
 | false =>
  have HE:=hide (HNo.out _ HB7.out (fun h=>by have:=HV.out.2 h.2.1;cases this));go_wp2_with fail;go_ret;exact HE.out
 | true =>
 have HIn:=hide (HV.out.1 rfl);go_wp2_with fail;go_loopw [3,4] (fun i _ wr=>∃ k:Nat,k <= s.rn/\i = .int .i64 (k:Int)/\Hid (RcI s k/\Below wk.heap.size wk wr)) (fun i _ _=>s.rn - (intOf i).toNat)
 case atStart=>exact ⟨0,Nat.zero_le _,rfl,fun j h=>by omega,HB7.out⟩
 case round =>
  obtain ⟨k,hk,rfl,HK⟩:=hrel
  rename World=>wr
  have hbn:=HF.out.rs.big;have hba:=HF.out.es.2.2.2.2;obtain ⟨c0,c3⟩:=(HX.out.below HK.out.2).cs;by_cases hlt:k < s.rn
  ·have hlti:(k:Int) < (s.rn:Int):=by omega
   obtain ⟨ad,hao,-⟩:=HF.out.rs.at k hlt
   obtain ⟨b1,o1,rfl⟩:∃ b1 o1,ad=⟨b1,o1,none⟩:=by
    have h:=HF.out.rs;rw [hao] at h;exact h.spot (by omega)
   obtain ⟨r,Hr⟩:∃ r,Hid (s.rs.getD k rc0=r):=⟨_,rfl⟩;have Hlt:=hide hlt;have Hao:=hide hao
   have HRo:Hid (∀ W,Below wk.heap.size wk W -> RcOk W r):=fun W hW=>by
    have h1:=(HF.out.rs.below hW).okAt k Hlt.out;rw [Hr.out] at h1;exact h1
   have HRa:Hid (∀ W,Below wk.heap.size wk W -> ReAt W ⟨b1,o1+k * 3,none⟩ (mkR r)):=fun W hW=>by
    have A:=(HF.out.rs.below hW).at_ _ Hao.out k Hlt.out;rw [Hr.out,Addr.add_lit] at A;exact A
   have HC3:Hid (∀ W,Below wk.heap.size wk W -> W.cell? ⟨G,3,none⟩=some (.slice (some ⟨b1,o1,none⟩) s.rn s.rc)/\W.cell? ⟨G,0,none⟩=some (.slice s.ao s.an s.ac)):=fun W hW=>by
    have h:=(HX.out.below hW).cs;rw [Hao.out] at h;exact ⟨h.2,h.1⟩
   have HSu:Hid (∀ W,Below wk.heap.size wk W -> (W.cell? ⟨G,3,none⟩=some (.slice (some ⟨b1,o1,none⟩) s.rn s.rc)/\W.cell? ⟨G,0,none⟩=some (.slice s.ao s.an s.ac))/\(ldP (.pointer (some ⟨b1,o1+k * 3+1,none⟩))).run Tryz.prog W = .ok (PV r.p) W/\(ldP (.pointer (some ⟨G,1,none⟩))).run Tryz.prog W = .ok (PV s.p) W):=fun W hW=>⟨HC3.out W hW,run_ldP (HRa.out W hW).flat.2,run_ldP (HX.out.below hW).past⟩;have HBe:=hide (HK.out.2.trans ((below_drew1 wr).mono HK.out.2.size));clear hlt hk hao;go_upto_region 8 with fail;refine wp_region_held_drew (S:=fun W=>(W.cell? ⟨G,3,none⟩=some (.slice (some ⟨b1,o1,none⟩) s.rn s.rc)/\W.cell? ⟨G,0,none⟩=some (.slice s.ao s.an s.ac))/\(ldP (.pointer (some ⟨b1,o1+k * 3+1,none⟩))).run Tryz.prog W = .ok (PV r.p) W/\(ldP (.pointer (some ⟨G,1,none⟩))).run Tryz.prog W = .ok (PV s.p) W) (by kernel_rfl) (HSu.out _ HBe.out) (fun hHeld=>?_)
   refine wU 0 ?_;refine wU 1 ?_;refine wU 2 ?_;refine wU 3 ?_;refine wU 4 ?_;refine wU 5 ?_;refine wU 6 ?_;refine wU 7 ?_;refine wpAnyH_ready (rs:=[8]) (by kernel_rfl) (by simp) (.cons rfl (fun K hK=>?_) .nil);go_simp;go_wp2_with fail;refine (refWithin_any r.p s.p _ (HRo.out _ HBe.out).1 (HF.out.p.below HBe.out)).mono ?_;rintro x w8 ⟨u,rfl,hu,b8⟩;have HU:Hid (u=true↔wiP r.p.P s.p.P):=hu;have HB8:=wTr HBe b8;clear hu b8;refine hK.out _ _ (HSu.out _ HB8.out) (fun hHeld=>?_);clear hK K;refine wpAnyH_done (by kernel_rfl) ?_ _;clear hHeld;clear c0 c3
   cases u with
   | true =>
    have HE:=hide (HNo.out _ HB8.out (fun h=>h.2.2.1 r (by rw [<- Hr.out];exact rcD_mem (by rw [HLn.out.2];exact Hlt.out)) (HU.out.1 rfl)));go_wp2_with fail;go_ret;exact HE.out
   | false =>
    have HWa:Hid (¬ wiP r.p.P s.p.P):=fun h=>by have:=HU.out.2 h;cases this
    go_wp2_with fail;go_loopw [4] (fun i wq=>∃ l:Nat,l <= s.an/\i = .int .i64 (l:Int)/\Hid ((∀ t,t < l -> covB r (s.es.getD t K.en0)=false)/\Below wk.heap.size wk wq)) (fun i _=>s.an - (intOf i).toNat)
    case atStart=>exact ⟨0,Nat.zero_le _,rfl,fun t h=>by omega,HB8.out⟩
    case round =>
     obtain ⟨l,hl,rfl,HL⟩:=hrel
     rename World=>wq
     obtain ⟨c3,c0⟩:=HC3.out _ HL.out.2;by_cases hll:l < s.an
     ·have hlli:(l:Int) < (s.an:Int):=by omega
      obtain ⟨ad,hae,-⟩:=HF.out.es.at l hll;obtain ⟨e,He⟩:∃ e,Hid (s.es.getD l K.en0=e):=⟨_,rfl⟩;have Hll:=hide hll;have Hae:=hide hae
      have hlt2:(k:Int) < (s.rn:Int):=by have:=Hlt.out;omega
      have HSw:Hid (∀ W,Below wk.heap.size wk W -> (W.cell? ⟨G,3,none⟩=some (.slice (some ⟨b1,o1,none⟩) s.rn s.rc)/\W.cell? ⟨G,0,none⟩=some (.slice (some ad) s.an s.ac))/\(ldRe (.pointer (some ⟨b1,o1+k * 3,none⟩))).run Tryz.prog W = .ok (ReV (mkR r)) W/\(K.ld28 (.pointer (some (ad.add (l * 4))))).run Tryz.prog W = .ok (K.EV e) W):=fun W hW=>by
       have h:=HC3.out W hW;rw [Hae.out] at h;obtain ⟨ad',ea,A⟩:=(HF.out.es.below hW).at l Hll.out;rw [Hae.out] at ea;obtain rfl:=Option.some.inj ea;rw [He.out] at A;exact ⟨h,run_laRe (HRa.out W hW),K.run_ld28 A⟩
      have HBg:=hide (HL.out.2.trans ((below_drew1 wq).mono HL.out.2.size));clear hll hl hae;go_upto_region 13 with fail;refine wp_region_held_drew (S:=fun W=>(W.cell? ⟨G,3,none⟩=some (.slice (some ⟨b1,o1,none⟩) s.rn s.rc)/\W.cell? ⟨G,0,none⟩=some (.slice (some ad) s.an s.ac))/\(ldRe (.pointer (some ⟨b1,o1+k * 3,none⟩))).run Tryz.prog W = .ok (ReV (mkR r)) W/\(K.ld28 (.pointer (some (ad.add (l * 4))))).run Tryz.prog W = .ok (K.EV e) W) (by kernel_rfl) (HSw.out _ HBg.out) (fun hHeld=>?_);refine wU 0 ?_;refine wU 1 ?_;refine wU 2 ?_;refine wU 3 ?_;refine wU 4 ?_;refine wU 5 ?_;refine wU 6 ?_;refine wU 7 ?_;refine wU 8 ?_;refine wU 9 ?_;refine wpAnyH_ready (rs:=[10]) (by kernel_rfl) (by simp) (.cons rfl (fun K hK=>?_) .nil);go_simp;go_wp2_with fail;refine (covers08_any r e _ (HRo.out _ HBg.out)).mono ?_;rintro x w9 ⟨rfl,b9⟩;have HB9:=wTr HBg b9
      obtain ⟨cb,Hcb⟩:∃ b,Hid (covB r e=b):=⟨_,rfl⟩;rw [Hcb.out];clear b9;refine hK.out _ _ (HSw.out _ HB9.out) (fun hHeld=>?_);clear hK K;refine wpAnyH_done (by kernel_rfl) ?_ _;clear hHeld;clear c0 c3
      cases cb with
      | true =>
       have HE:=hide (HNo.out _ HB9.out (fun h=>free_no (by rw [HLn.out.2];exact Hlt.out) (by rw [HLn.out.1];exact Hll.out) (by rw [Hr.out,He.out];exact Hcb.out) h.2.2.2));go_wp2_with fail;go_ret;exact HE.out
      | false =>
       have HN:Hid ((∀ t,t < l+1 -> covB r (s.es.getD t K.en0)=false)/\Below wk.heap.size wk w9):=⟨fun t ht=>by
        by_cases e1:t=l
        ·rw [e1,He.out];exact Hcb.out
        ·exact HL.out.1 t (by omega),HB9.out⟩
       go_wp2_with fail;go_roundw
       case rel=>exact ⟨l+1,Hll.out,by simp,HN.out⟩
       case measure=>simp [intOf];omega
     ·have hlli:¬ (l:Int) < (s.an:Int):=by omega
      have HN:Hid (RcI s (k+1)/\Below wk.heap.size wk wq):=⟨fun j hj=>by
       by_cases e1:j=k
       ·rw [e1,Hr.out];refine ⟨HWa.out,fun e he=>?_⟩;obtain ⟨t,ht,rfl⟩:=List.getElem_of_mem he;have h1:=HL.out.1 t (by have:=HLn.out.1;omega);rw [List.getD_eq_getElem?_getD,List.getElem?_eq_getElem ht] at h1;exact h1
       ·exact HK.out.1 j (by omega),HL.out.2⟩
      clear hll hl;go_wp2_with fail;clear c0 c3 hlli;go_roundw
      case rel=>exact ⟨k+1,Hlt.out,by simp,HN.out⟩
      case measure=>simp [intOf];have:=Hlt.out;omega
  ·have hlti:¬ (k:Int) < (s.rn:Int):=by omega
   have HE:Hid (GivB w wr (.returned (.bool true)) (FormS s)):=by
    have h1:=HK.out.1;rw [show k=s.rs.length by rw [HLn.out.2];omega] at h1;exact ⟨true,rfl,⟨fun _=>⟨⟨HE0.out,HI0.out,HO0.out⟩,HIn.out,h1.done.1,h1.done.2⟩,fun _=>rfl⟩,HBK.out.trans (HK.out.2.mono HBK.out.size)⟩
   clear hlt hk;go_wp2_with fail;clear c0 c3;go_ret;exact HE.out
end Go.Proofs.YtjeilkenjdnafaaGreat
namespace Go.Proofs.YtjeilkenjdnafaaGreat.K
section
open Go.RowKit
attribute [local go_sem ↓] ld28_eq st28_eq ld26_eq run_eqD run_eq28
attribute [local go_sem] zero_EC cells_EV EC_size
structure DotAt (w:World) (g:Nat) (e:En):Prop where
 c0:w.cell? ⟨g,0,none⟩=some (.int .i64 e.rep)
 c1:w.cell? ⟨g,1,none⟩=some (.int .i64 e.num)
theorem DotAt.on {w w':World} {g:Nat} {e:En} (D:DotAt w g e) (hb:Below w.heap.size w w'):DotAt w' g e:=
 ⟨(hb.cell (World.block_lt_of_cell? _ _ D.c0)).trans D.c0,(hb.cell (World.block_lt_of_cell? _ _ D.c1)).trans D.c1⟩
theorem cells_DV (e:En):(Value.agg (DC e)).cells=DC e:=by simp [Value.cells]
attribute [local go_sem] cells_DV
def IxOf (L:List En) (x:En) (k:Int):Prop:=(k = -1/\∀ i,i < L.length -> sameDot (L.getD i en0) x=false)∨∃ i,i < L.length/\k=(i:Int)/\sameDot (L.getD i en0) x=true/\∀ j,j < i -> sameDot (L.getD j en0) x=false
def fdE (L:List En) (k:Int):En:=if k < 0 then en0 else L.getD k.toNat en0
def fdB (k:Int):Bool:=decide (0 <= k)
def GivesF (w w':World) (y:Ending) (L:List En) (x:En):Prop:=∃ k,y = .returned (.tuple #[EV (fdE L k),.bool (fdB k)])/\IxOf L x k/\Below w.heap.size w w'
end
section
open Go.RowKit
attribute [local go_sem ↓] ld28_eq st28_eq ld26_eq run_eqD run_eq28
attribute [local go_sem] zero_EC cells_EV EC_size
attribute [local go_sem] cells_DV
end
end Go.Proofs.YtjeilkenjdnafaaGreat.K
namespace Go.Proofs.YtjeilkenjdnafaaGreat
section
open Go.RowKit
structure SwU (w:World) (s:Fc):Prop where
 ok:FcOk w s
 row:FcR s
 wt:∀ t,wt (ofS s.rs t) <= 8796093022207
 nm:s.rn * (s.an+1) <= 8796093022207
 rn:s.rn <= 2199023255551
theorem SwU.below {w w':World} {s:Fc} (h:SwU w s) (hb:Below w.heap.size w w'):SwU w' s:=⟨h.ok.below hb,h.row,h.wt,h.nm,h.rn⟩
def KnOf (s:Fc) (d:Rn) (x:Int):Prop:=(¬ (FormS s/\dotIn s.p.P d)/\x=0)∨((FormS s/\dotIn s.p.P d)/\(∃ e∈s.es,dotOf e=d)/\x=1)∨((FormS s/\dotIn s.p.P d)/\(¬ ∃ e∈s.es,dotOf e=d)/\x=2)
theorem run_eqRV (x y:Rn) (w:World):(Op.equalIn 10000 55 (.agg (RC x)) (.agg (RC y))).run Tryz.prog w = .ok (x.lo == y.lo && x.hi == y.hi) w:=K.run_eqD ⟨x.lo,x.hi,⟨#[]⟩,0⟩ ⟨y.lo,y.hi,⟨#[]⟩,0⟩ w
attribute [local go_sem ↓] ldP_eq stP_eq ldSw_eq stSw_eq ldD_eq stD_eq K.ld28_eq K.st28_eq run_eqRV
attribute [local go_sem] cells_PV PC_size cells_FaV FaC_size cells_RV RC_size zero_RC K.cells_EV K.EC_size K.zero_EC
end
section
open Go.RowKit
variable {w w' W : World} {g : Nat}
structure Ks where
 ro:Option Addr
 rn:Nat
 rc:Nat
 qo:Option Addr
 qn:Nat
 qc:Nat
 ao:Option Addr
 an:Nat
 ac:Nat
 bo:Option Addr
 bn:Nat
 bc:Nat
 p:Pv
 o:Pv
def KsC (m:Ks):Array Value:=#[.slice m.ro m.rn m.rc,.slice m.qo m.qn m.qc,.slice m.ao m.an m.ac,.slice m.bo m.bn m.bc,.slice m.p.vo m.p.vn m.p.vc,.slice m.p.co m.p.cn m.p.cc,.slice m.o.vo m.o.vn m.o.vc,.slice m.o.co m.o.cn m.o.cc]
abbrev KsV (m:Ks):Value:=.agg (KsC m)
def RSm (R:List Rc):Prop:=R.length <= 209716/\∀ r∈R,r.p.P.cloud.length <= 1048576
structure KsS (w:World) (m:Ks) (R Q:List Rc) (A B:List K.En):Prop where
 r:RcS w m.ro m.rn m.rc R
 q:RcS w m.qo m.qn m.qc Q
 a:K.ESrc w m.ao m.an m.ac A
 b:K.ESrc w m.bo m.bn m.bc B
 p:PSrc w m.p
 o:PSrc w m.o
 sr:RSm R
 sq:RSm Q
 sa:m.an <= 1048576
 sb:m.bn <= 1048576
theorem KsS.below {m:Ks} {R Q:List Rc} {A B:List K.En} (h:KsS w m R Q A B) (b:Below w.heap.size w w'):KsS w' m R Q A B:=
 ⟨h.r.below b,h.q.below b,h.a.below b,h.b.below b,h.p.below b,h.o.below b,h.sr,h.sq,h.sa,h.sb⟩
theorem wt_le (X:List Pv) (c:Nat) (h:∀ p∈X,p.P.cloud.length <= c):wt X <= X.length * (c+1):=by
 induction X with
 | nil=>exact Nat.zero_le _
 | cons p X ih =>
  have h1:=ih (fun q hq=>h q (List.mem_cons_of_mem _ hq));have h2:=h p List.mem_cons_self;simp only [wt,List.length_cons];rw [Nat.add_mul];omega
end
section
open Go.RowKit
structure SwB (N:Nat) (w:World) (s:Fc):Prop where
 ok:FcOk w s
 row:FcR s
 rn:s.rn <= N * 209716
 an:s.an <= N * 1048576
 cl:∀ r∈s.rs,r.p.P.cloud.length <= 1048576
theorem SwB.below {N:Nat} {w w':World} {s:Fc} (h:SwB N w s) (hb:Below w.heap.size w w'):SwB N w' s:=⟨h.ok.below hb,h.row,h.rn,h.an,h.cl⟩
theorem wt_cl {R:List Rc} (hn:R.length <= 838864) (hc:∀ r∈R,r.p.P.cloud.length <= 1048576) (t:ByteArray):wt (ofS R t) <= 8796093022207:=by
 have h1:=wt_le (ofS R t) 1048576 (fun p hp=>by obtain ⟨r,hr,-,rfl⟩:=ofS_mem.1 hp;exact hc r hr);have h2:=ofS_len R t;have h4:(ofS R t).length * (1048576+1) <= 838864 * (1048576+1):=Nat.mul_le_mul_right _ (by omega);omega
theorem nm_cl {n m:Nat} (hn:n <= 838864) (hm:m <= 4194304):n * (m+1) <= 8796093022207:=by
 have h3:n * (m+1) <= 838864 * (4194304+1):=Nat.mul_le_mul hn (by omega);omega
theorem SwB.u {N:Nat} {w:World} {s:Fc} (h:SwB N w s) (hN:N <= 4):SwU w s:=by
 have h1:=h.rn;have h2:=h.an;have h3:=h.ok.rs.len;exact ⟨h.ok,h.row,wt_cl (by omega) h.cl,nm_cl (by omega) (by omega),by omega⟩
open Classical in
def SjD (a b s:Fc) (er:Int):Prop:=(¬ (FormS a/\FormS b)/\er=1/\s=fz0)∨((FormS a/\FormS b)/\∃ Z e,MgD a.es b.es a.p.P b.p.P Z e/\((e≠0/\er=e/\s=fz0)∨(e=0/\er=0/\∃ U,UnOf a.rs b.rs U/\s.es=Z.filter (freeB U)/\CanonOf (runsOf [a.p,b.p]) s.p.P/\WtOf U s.p.P s.rs)))
def SwJ (N:Nat) (w w':World) (e:Ending) (D:Fc -> Int -> Prop):Prop:=∃ s er,e = .returned (.tuple #[FaV (mkF s),.int .i64 er])/\SwB N w' s/\Below w.heap.size w w'/\D s er
def ChkBS (a b:Fc) (x:Int):Prop:=((FormS a/\FormS b)/\x=0)∨(¬ (FormS a/\FormS b)/\x=1)
theorem fz0_b (N:Nat) (w:World):SwB N w fz0:=⟨fz0_ok w,fz0_row,Nat.zero_le _,Nat.zero_le _,fun r h=>(by cases h)⟩
theorem wt_clF {L F:List Rc} {P:Pst} (h:WtOf L P F) (hl:∀ r∈L,r.p.P.cloud.length <= 1048576):∀ r∈F,r.p.P.cloud.length <= 1048576:=fun r hr=>by
 have h1:rck r∈plR F:=List.mem_map.2 ⟨r,hr,rfl⟩;rw [h.2] at h1;obtain ⟨x,hx,e⟩:=List.mem_map.1 (List.mem_filter.1 h1).1;have e2:x.p.P=r.p.P:=congrArg Prod.snd e;rw [<- e2];exact hl x hx
attribute [local go_sem ↓] ldP_eq stP_eq ldSw_eq stSw_eq bldS_eq bsPs_eq
attribute [local go_sem] cells_PV PC_size cells_FaV FaC_size zero_FaZ run_bsPs run_bldS run_bldS0 zero_PC
end
section
open Go.RowKit
structure Ab where
 L:List K.En
 P:Pst
 R:List Rp
def ab (s:Fc):Ab:=⟨s.es,s.p.P,plR s.rs⟩
def RpOk (y:Rp):Prop:=skuR y.1=true/\FormP y.2
def covA (r:Rp) (e:K.En):Bool:=(decide (r.1.size=0) || (r.1.toList == e.sku.toList)) && inB r.2 e
def freeA (R:List Rp) (e:K.En):Prop:=∀ r∈R,covA r e=false
theorem free_ab (R:List Rc) (e:K.En):freeB R e=true↔freeA (plR R) e:=by
 unfold freeB freeA;rw [Bool.not_eq_true',List.any_eq_false];constructor
 ·intro h r hr;obtain ⟨x,hx,rfl⟩:=List.mem_map.1 hr;exact Bool.eq_false_iff.2 (h x hx)
 ·intro h x hx;exact Bool.eq_false_iff.1 (h (rck x) (List.mem_map.2 ⟨x,hx,rfl⟩))
structure FmA (x:Ab):Prop where
 c:K.chk x.L=0
 p:InForm x.P
 r:(∀ y∈x.R,RpOk y)/\Srt ck x.R
 h:∀ e∈x.L,inB x.P e=true
 w:∀ y∈x.R,¬ wiP y.2 x.P
 f:∀ e∈x.L,freeA x.R e
def enD (r:Nat) (n:Int):K.En:=⟨(r:Int),n,⟨#[]⟩,0⟩
theorem inB_en {P:Pst} {r:Nat} (hr:r < 16) {n:Int}:inB P (enD r n)=true↔mem (runsAt P r) n:=by
 rw [inB_iff];unfold dotIn enD
 have h:V.isR (r:Int)=true:=by simp [V.isR];omega
 simp [h]
theorem wi_inB {A P:Pst}:wiP A P↔∀ e,inB A e=true -> inB P e=true:=by
 constructor
 ·intro h e he;rw [inB_iff] at he ⊢;obtain ⟨h1,h2⟩:=he
  have h4:0 <= e.rep/\e.rep < 16:=by simpa [V.isR] using h1
  exact ⟨h1,h _ (by show e.rep.toNat < 16;omega) _ h2⟩
 ·intro h r hr n hm;exact (inB_en hr).1 (h (enD r n) ((inB_en hr).2 hm))
theorem pst_ext {P Q:Pst} (hp:InForm P) (hq:InForm Q) (h:∀ e,inB P e=true↔inB Q e=true):P=Q:=
 (canon_iff.2 hp:CanonOf (runsAt P) P).unique (canon_iff.2 hq:CanonOf (runsAt Q) Q) fun r hr n=>by
  rw [<- inB_en hr,<- inB_en hr];exact h _
structure JnA (x y z:Ab):Prop where
 a:K.Asc z.L
 l:∀ e,e∈z.L↔KeptM x.L y.L x.P y.P e/\freeA x.R e/\freeA y.R e
 p:InForm z.P
 d:∀ e,inB z.P e=true↔inB x.P e=true∨inB y.P e=true
 s:Srt ck z.R
 r:∀ q,q∈z.R↔(q∈x.R∨q∈y.R)/\¬ wiP q.2 z.P
theorem canon_inB {P:Pst} {a b:Pv} (h:CanonOf (runsOf [a,b]) P) (e:K.En):inB P e=true↔inB a.P e=true∨inB b.P e=true:=by
 rw [inB_iff,inB_iff,inB_iff];unfold dotIn;by_cases h1:V.isR e.rep=true
 ·have h4:0 <= e.rep/\e.rep < 16:=by simpa [V.isR] using h1
  have hr:e.rep.toNat < 16:=by omega
  simp only [h1,true_and];rw [canon_mem h _ hr,runsOf_mem];simp
 ·simp [h1]
end
section
open Go.RowKit
theorem asc_dotS {R:List K.En} (h:K.Asc R) {x y:K.En} (hx:x∈R) (hy:y∈R) (hs:K.sameDot x y=true):x=y:=
 Classical.byContradiction fun hne=>K.asc_noclash h (fun _=>Iff.rfl) ⟨x,hx,y,hy,hs,hne⟩
theorem same_eq {A B:List K.En} (hc:¬ K.Clash (A++B)) {x y:K.En} (hx:x∈A) (hy:y∈B) (h:K.sameDot y x=true):y=x:=by
 refine Classical.byContradiction fun hne=>hc ⟨y,List.mem_append.2 (.inr hy),x,List.mem_append.2 (.inl hx),h,hne⟩
theorem stay_iff {A B:List K.En} {O:Pst} (hc:¬ K.Clash (A++B)) {x:K.En} (hx:x∈A):stayB B O x=true↔(inB O x=true -> x∈B):=by
 unfold stayB;rw [Bool.or_eq_true,List.any_eq_true,Bool.not_eq_true'];constructor
 ·rintro (⟨y,hy,h⟩ | h) k
  ·rw [<- same_eq hc hx hy h];exact hy
  ·rw [k] at h;cases h
 ·intro h;by_cases k:inB O x=true
  ·exact .inl ⟨x,h k,by simp [K.sameDot]⟩
  ·exact .inr (Bool.eq_false_iff.2 k)
theorem clash_comm {A B:List K.En} (hc:¬ K.Clash (A++B)):¬ K.Clash (B++A):=fun h=>hc (clash_swap h)
theorem kept_iff {A B:List K.En} {P O:Pst} (hc:¬ K.Clash (A++B)) {e:K.En}:KeptM A B P O e↔(e∈A∨e∈B)/\(inB P e=true -> e∈A)/\(inB O e=true -> e∈B):=by
 unfold KeptM;constructor
 ·rintro (⟨h1,h2⟩ | ⟨h1,h2⟩)
  ·exact ⟨.inl h1,fun _=>h1,(stay_iff hc h1).1 h2⟩
  ·exact ⟨.inr h1,(stay_iff (clash_comm hc) h1).1 h2,fun _=>h1⟩
 ·rintro ⟨h1 | h1,h2,h3⟩
  ·exact .inl ⟨h1,(stay_iff hc h1).2 h3⟩
  ·exact .inr ⟨h1,(stay_iff (clash_comm hc) h1).2 h2⟩
theorem FmA.asc {x:Ab} (h:FmA x):K.Asc x.L:=K.chk_asc' h.c
def NoC (x y:Ab):Prop:=¬ K.Clash (x.L++y.L)
theorem noC_of {x y:Ab} (hx:K.Asc x.L) (hy:K.Asc y.L) (h:∀ a∈x.L,∀ b∈y.L,K.sameDot a b=true -> a=b):NoC x y:=by
 rintro ⟨a,ha,b,hb,hs,hne⟩
 have sw:∀ p q:K.En,K.sameDot p q=true -> K.sameDot q p=true:=fun p q h=>by
  unfold K.sameDot at h ⊢;rw [Bool.and_eq_true,beq_iff_eq,beq_iff_eq] at h ⊢;exact ⟨h.1.symm,h.2.symm⟩
 rcases List.mem_append.1 ha with ha | ha <;> rcases List.mem_append.1 hb with hb | hb
 ·exact hne (asc_dotS hx ha hb hs)
 ·exact hne (h a ha b hb hs)
 ·exact hne (h b hb a ha (sw _ _ hs)).symm
 ·exact hne (asc_dotS hy ha hb hs)
theorem noC_self {x:Ab} (h:FmA x):NoC x x:=noC_of h.asc h.asc fun _ ha _ hb hs=>asc_dotS h.asc ha hb hs
theorem NoC.at {x y:Ab} (h:NoC x y) {a b:K.En} (ha:a∈x.L) (hb:b∈y.L) (hs:K.sameDot a b=true):a=b:=
 Classical.byContradiction fun hne=>h ⟨a,List.mem_append.2 (.inl ha),b,List.mem_append.2 (.inr hb),hs,hne⟩
theorem JnA.live {x y z:Ab} (h:JnA x y z) (hc:NoC x y) (e:K.En):e∈z.L↔((e∈x.L∨e∈y.L)/\(inB x.P e=true -> e∈x.L)/\(inB y.P e=true -> e∈y.L))/\freeA x.R e/\freeA y.R e:=by
 rw [h.l,kept_iff hc]
theorem cov_in {q:Rp} {e:K.En} (h:covA q e=true):inB q.2 e=true:=by unfold covA at h;rw [Bool.and_eq_true] at h;exact h.2
theorem le_iff {x y:Ab} (hx:FmA x) (hy:FmA y) (hc:NoC x y):JnA x y y↔(∀ e,inB x.P e=true -> inB y.P e=true)/\(∀ q∈x.R,¬ wiP q.2 y.P -> q∈y.R)/\(∀ e∈y.L,inB x.P e=true -> e∈x.L)/\∀ e∈y.L,freeA x.R e:=by
 constructor
 ·intro h;refine ⟨fun e he=>(h.d e).2 (.inl he),fun q hq hw=>(h.r q).2 ⟨.inl hq,hw⟩,fun e he=>?_,fun e he=>?_⟩
  ·exact ((h.live hc e).1 he).1.2.1
  ·exact ((h.live hc e).1 he).2.1
 ·rintro ⟨h1,h2,h3,h4⟩;refine ⟨hy.asc,fun e=>?_,hy.p,fun e=>⟨.inr,fun k=>k.elim (h1 e) id⟩,hy.r.2,fun q=>⟨fun k=>⟨.inr k,hy.w q k⟩,fun k=>k.1.elim (fun m=>h2 q m k.2) id⟩⟩;rw [kept_iff hc];constructor
  ·intro k;exact ⟨⟨.inr k,h3 e k,fun _=>k⟩,h4 e k,hy.f e k⟩
  ·rintro ⟨⟨k1 | k1,-,k3⟩,-⟩
   ·exact k3 (h1 e (hx.h e k1))
   ·exact k1
theorem le_refl {x:Ab} (hx:FmA x):JnA x x x:=(le_iff hx hx (noC_self hx)).2 ⟨fun _ h=>h,fun _ h _=>h,fun _ h _=>h,hx.f⟩
theorem le_trans {x y z:Ab} (hx:FmA x) (hy:FmA y) (hz:FmA z) (c1:NoC x y) (c2:NoC y z) (c3:NoC x z) (h1:JnA x y y) (h2:JnA y z z):JnA x z z:=by
 obtain ⟨a1,a2,a3,a4⟩:=(le_iff hx hy c1).1 h1;obtain ⟨b1,b2,b3,b4⟩:=(le_iff hy hz c2).1 h2;refine (le_iff hx hz c3).2 ⟨fun e h=>b1 e (a1 e h),fun q hq hw=>?_,fun e he hi=>a3 e (b3 e he (a1 e hi)) hi,fun e he q hq=>?_⟩
 ·exact b2 q (a2 q hq fun k=>hw (wi_inB.2 fun e h=>b1 e (wi_inB.1 k e h))) hw
 ·refine Bool.eq_false_iff.2 fun hcv=>?_;by_cases hw:wiP q.2 y.P
  ·have hi:=wi_inB.1 hw e (cov_in hcv);have:=a4 e (b3 e he hi) q hq;rw [hcv] at this;cases this
  ·have:=b4 e he q (a2 q hq hw);rw [hcv] at this;cases this
def ab0:Ab:=⟨[],pv0.P,[]⟩
end
end Go.Proofs.YtjeilkenjdnafaaGreat
