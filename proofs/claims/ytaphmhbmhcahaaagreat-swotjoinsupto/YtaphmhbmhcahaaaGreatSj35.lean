/- SZh SXa SXn SXo SXp -/
import Derived.Test.YtaphmhbmhcahaaaGreatTk
import Derived.Test.YtaphmhbmhcahaaaGreatSj31
import Derived.Test.YtaphmhbmhcahaaaGreatSj20
import Derived.Test.YtaphmhbmhcahaaaGreatSj16
set_option maxRecDepth 100000
set_option maxHeartbeats 6400000
namespace Go.Proofs.YtaphmhbmhcahaaaGreat
section
open Go.RowKit
theorem str_eqL {s t:ByteArray} (h:(s.toList == t.toList)=true):s=t:=sku_eq h
theorem takeE4 (L:List K.En) (k:Nat) (h:k < L.length):L.take (k+1)=L.take k++[L.getD k K.en0]:=by
 rw [List.take_succ_eq_append_getElem h];simp [List.getD,h]
theorem takeR4 (L:List Rc) (k:Nat) (h:k < L.length):L.take (k+1)=L.take k++[L.getD k rc0]:=by
 rw [List.take_succ_eq_append_getElem h];simp [List.getD,h]
attribute [local go_sem ↓] ldP_eq stP_eq ldSw_eq stSw_eq K.ld28_eq K.st28_eq
attribute [local go_sem] cells_PV PC_size cells_FaV FaC_size K.zero_EC K.cells_EV
theorem equal11_any (a b:Fc) (w:World) (hF:FcOk w a) (hG:FcOk w b):Calls Tryz.prog 12 #[FaV (mkF a),FaV (mkF b)] w fun e w'=>GivB w w' e (EqS a b):=by
 obtain ⟨wk,hwk,HX,HY,HBK⟩:=box2S w a b;obtain ⟨G,hG0⟩:∃ G,w.heap.size=G:=⟨_,rfl⟩;rw [hG0] at HX HY;have HS:=hide (hF.below HBK.out);have HR:=hide (hG.below HBK.out);have HNo:Hid (∀ W,Below wk.heap.size wk W -> ¬ EqS a b -> GivB w W (.returned (.bool false)) (EqS a b)):=fun W h k=>⟨false,rfl,BIf.no k,HBK.out.trans (h.mono HBK.out.size)⟩
 have hle:EqS a b -> b.an=a.an:=fun h=>by rw [<- HS.out.es.1,<- HR.out.es.1,h.1]
 have hlr:EqS a b -> b.rn=a.rn:=fun h=>by
  have h1:=congrArg List.length h.2.2;rw [plR_len,plR_len,HS.out.rs.len,HR.out.rs.len] at h1;exact h1.symm
 have Hle:=hide hle;have Hlr:=hide hlr;clear hF hG hle hlr;have hba:=HS.out.es.2.2.2.2;have hbb:=HR.out.es.2.2.2.2;have hbc:=HS.out.rs.big;have hbd:=HR.out.rs.big;by_cases h1:a.an=b.an;rotate_left
 ·have d1:((a.an:Int) != (b.an:Int))=true:=by simp;omega
  have HE:=hide (HNo.out _ (Below.refl _ _) fun h=>h1 (Hle.out h).symm);obtain ⟨c0,c3⟩:=HX.out.cs;obtain ⟨d0,d3⟩:=HY.out.cs;clear h1;go_enter Tryz.func12,Tryz.ntmps12;go_wp2_with fail;go_ret;exact HE.out
 obtain ⟨n,hn⟩:∃ n,a.an=n:=⟨_,rfl⟩
 have HCe:Hid (∀ W,Below wk.heap.size wk W -> W.cell? ⟨G,0,none⟩=some (.slice a.ao n a.ac)/\W.cell? ⟨G+1,0,none⟩=some (.slice b.ao n b.ac)):=fun W h=>by
  rw [<- hn];refine ⟨(HX.out.below h).cs.1,?_⟩;rw [h1];exact (HY.out.below h).cs.1
 have HSe:Hid (K.ESrc wk a.ao n a.ac a.es/\K.ESrc wk b.ao n b.ac b.es):=⟨by rw [<- hn];exact HS.out.es,by rw [<- hn,h1];exact HR.out.es⟩;have hbn:=HSe.out.1.2.2.2.2;clear hba hbb;obtain ⟨c0,d0⟩:=HCe.out _ (Below.refl _ _);have lp:=run_ldP HX.out.past;have lq:=run_ldP HY.out.past;have c3:=HX.out.cs.2;have d3:=HY.out.cs.2;clear hn h1;go_enter Tryz.func12,Tryz.ntmps12;go_wp2_with fail;clear hwk hG0 lp lq c0 d0 c3 d3;refine (samePast_any a.p b.p _ HS.out.p HR.out.p).mono ?_;rintro e w2 ⟨v,rfl,hv,b2⟩;have HB2:=hide b2;clear b2;obtain ⟨c0,d0⟩:=HCe.out _ HB2.out;have c3:=(HX.out.below HB2.out).cs.2;have d3:=(HY.out.below HB2.out).cs.2
 cases v with
 | false =>
  have HE:=hide (HNo.out _ HB2.out fun h=>absurd (hv.2 h.2.1) (by decide));clear hv;go_wp2_with fail;go_ret;exact HE.out
 | true =>
 have HP:Hid (a.p.P=b.p.P):=hv.1 rfl;clear hv;by_cases h2:a.rn=b.rn;rotate_left
 ·have d1:((a.rn:Int) != (b.rn:Int))=true:=by simp;omega
  have HE:=hide (HNo.out _ HB2.out fun h=>h2 (Hlr.out h).symm);clear h2;go_wp2_with fail;go_ret;exact HE.out
 obtain ⟨m,hm⟩:∃ n,a.rn=n:=⟨_,rfl⟩
 have HCr:Hid (∀ W,Below wk.heap.size wk W -> W.cell? ⟨G,3,none⟩=some (.slice a.ro m a.rc)/\W.cell? ⟨G+1,3,none⟩=some (.slice b.ro m b.rc)):=fun W h=>by
  rw [<- hm];refine ⟨(HX.out.below h).cs.2,?_⟩;rw [h2];exact (HY.out.below h).cs.2
 have HSr:Hid (RcS wk a.ro m a.rc a.rs/\RcS wk b.ro m b.rc b.rs):=⟨by rw [<- hm];exact HS.out.rs,by rw [<- hm,h2];exact HR.out.rs⟩;have hbm:=HSr.out.1.big;clear c3 d3 hbc hbd;obtain ⟨c3,d3⟩:=HCr.out _ HB2.out;clear hm h2 Hle Hlr;have HLe:Hid (a.es.length=n/\b.es.length=n):=⟨HSe.out.1.1,HSe.out.2.1⟩;have HLr:Hid (a.rs.length=m/\b.rs.length=m):=⟨HSr.out.1.len,HSr.out.2.len⟩;go_wp2_with fail;clear c0 c3 d0 d3;go_loopw [5] (fun i wr=>∃ k:Nat,k <= n/\i = .int .i64 (k:Int)/\Hid (a.es.take k=b.es.take k/\Below wk.heap.size wk wr)) (fun i _=>n - (intOf i).toNat)
 case atStart=>exact ⟨0,Nat.zero_le _,rfl,rfl,HB2.out⟩
 case round =>
  obtain ⟨k,hk,rfl,HK⟩:=hrel
  rename World=>wr
  obtain ⟨c0,d0⟩:=HCe.out _ HK.out.2;by_cases hlt:k < n
  ·have hlti:(k:Int) < (n:Int):=by omega
   obtain ⟨ad,hao,-⟩:=HSe.out.1.at k hlt;obtain ⟨bd,hbo,-⟩:=HSe.out.2.at k hlt;obtain ⟨x,Hx⟩:∃ e,Hid (a.es.getD k K.en0=e):=⟨_,rfl⟩;obtain ⟨y,Hy⟩:∃ e,Hid (b.es.getD k K.en0=e):=⟨_,rfl⟩
   have Ht:Hid (a.es.take (k+1)=a.es.take k++[x]/\b.es.take (k+1)=b.es.take k++[y]):=by
    rw [<- Hx.out,<- Hy.out];exact ⟨takeE4 _ _ (by rw [HLe.out.1];exact hlt),takeE4 _ _ (by rw [HLe.out.2];exact hlt)⟩
   have Hlt:=hide hlt
   have HSt:Hid (∀ W,Below wk.heap.size wk W -> (W.cell? ⟨G,0,none⟩=some (.slice (some ad) n a.ac)/\W.cell? ⟨G+1,0,none⟩=some (.slice (some bd) n b.ac))/\(K.ld28 (.pointer (some (ad.add (k * 4))))).run Tryz.prog W = .ok (K.EV x) W/\(K.ld28 (.pointer (some (bd.add (k * 4))))).run Tryz.prog W = .ok (K.EV y) W):=fun W hW=>by
    have hc:=HCe.out W hW;rw [hao,hbo] at hc;obtain ⟨ad',ea,A⟩:=(HSe.out.1.below hW).at k Hlt.out;obtain ⟨bd',eb,B⟩:=(HSe.out.2.below hW).at k Hlt.out;rw [hao] at ea;rw [hbo] at eb;obtain rfl:=Option.some.inj ea;obtain rfl:=Option.some.inj eb;rw [Hx.out] at A;rw [Hy.out] at B;exact ⟨⟨hc.1,hc.2⟩,K.run_ld28 A,K.run_ld28 B⟩
   have HBn:=hide (HK.out.2.trans ((below_drew1 wr).mono HK.out.2.size));clear hlt hk;rw [hao] at c0;rw [hbo] at d0;clear hao hbo;by_cases he:x=y
   ·have leq:∀ W:World,(Op.equalIn 10000 66 (K.EV x) (K.EV y)).run Tryz.prog W = .ok true W:=fun W=>(K.run_eq28 x y W).trans (congrArg (fun b=>Result.ok b W) ((K.eqE_iffK x y).2 he));have HN:Hid (a.es.take (k+1)=b.es.take (k+1)/\Below wk.heap.size wk wr.drew):=⟨by rw [Ht.out.1,Ht.out.2,HK.out.1,he],HBn.out⟩;clear he;go_upto_region 6 with fail;clear c0 d0;refine wp_region_held_drew (S:=fun W=>(W.cell? ⟨G,0,none⟩=some (.slice (some ad) n a.ac)/\W.cell? ⟨G+1,0,none⟩=some (.slice (some bd) n b.ac))/\(K.ld28 (.pointer (some (ad.add (k * 4))))).run Tryz.prog W = .ok (K.EV x) W/\(K.ld28 (.pointer (some (bd.add (k * 4))))).run Tryz.prog W = .ok (K.EV y) W) (by kernel_rfl) (HSt.out _ (HK.out.2.trans ((below_drew1 wr).mono HK.out.2.size))) (fun hHeld=>?_);refine wU 0 ?_;refine wU 1 ?_;refine wU 2 ?_;refine wU 3 ?_;refine wU 4 ?_;refine wU 5 ?_
    refine wU 6 ?_;refine wU 7 ?_;refine wU 8 ?_;refine wU 9 ?_;refine wU 10 ?_;refine wpAnyH_done (by kernel_rfl) ?_ _;clear hHeld leq;go_wp2_with fail;go_roundw
    case rel=>exact ⟨k+1,Hlt.out,by simp,HN.out⟩
    case measure=>simp [intOf];have:=Hlt.out;omega
   ·have leq:∀ W:World,(Op.equalIn 10000 66 (K.EV x) (K.EV y)).run Tryz.prog W = .ok false W:=fun W=>(K.run_eq28 x y W).trans (congrArg (fun b=>Result.ok b W) (Bool.eq_false_iff.2 fun h=>he ((K.eqE_iffK x y).1 h)));have HE:=hide (HNo.out _ HBn.out fun h=>he (by rw [<- Hx.out,<- Hy.out,h.1]));clear he;go_upto_region 6 with fail;clear c0 d0;refine wp_region_held_drew (S:=fun W=>(W.cell? ⟨G,0,none⟩=some (.slice (some ad) n a.ac)/\W.cell? ⟨G+1,0,none⟩=some (.slice (some bd) n b.ac))/\(K.ld28 (.pointer (some (ad.add (k * 4))))).run Tryz.prog W = .ok (K.EV x) W/\(K.ld28 (.pointer (some (bd.add (k * 4))))).run Tryz.prog W = .ok (K.EV y) W) (by kernel_rfl) (HSt.out _ (HK.out.2.trans ((below_drew1 wr).mono HK.out.2.size))) (fun hHeld=>?_);refine wU 0 ?_;refine wU 1 ?_;refine wU 2 ?_;refine wU 3 ?_;refine wU 4 ?_;refine wU 5 ?_;refine wU 6 ?_;refine wU 7 ?_
    refine wU 8 ?_;refine wU 9 ?_;refine wU 10 ?_;refine wpAnyH_done (by kernel_rfl) ?_ _;clear hHeld leq;go_wp2_with fail;go_ret;exact HE.out
  ·have hlti:¬ (k:Int) < (n:Int):=by omega
   have HEs:Hid (a.es=b.es):=by
    have h:=HK.out.1;rw [List.take_of_length_le (by have:=HLe.out.1;omega),List.take_of_length_le (by have:=HLe.out.2;omega)] at h;exact h
   have HB3:=hide HK.out.2;clear hlt hk HK;go_wp2_with fail;clear c0 d0 hlti;go_loopw [6] (fun i wr=>∃ k:Nat,k <= m/\i = .int .i64 (k:Int)/\Hid (plR (a.rs.take k)=plR (b.rs.take k)/\Below wk.heap.size wk wr)) (fun i _=>m - (intOf i).toNat)
   case atStart=>exact ⟨0,Nat.zero_le _,rfl,rfl,HB3.out⟩
   case round =>
    obtain ⟨k,hk,rfl,HK⟩:=hrel
    rename World=>wr
    obtain ⟨c3,d3⟩:=HCr.out _ HK.out.2;by_cases hlt:k < m
    ·have hlti:(k:Int) < (m:Int):=by omega
     have Hlt:=hide hlt;obtain ⟨ad,hao,-⟩:=HSr.out.1.at k hlt;obtain ⟨bd,hbo,-⟩:=HSr.out.2.at k hlt
     obtain ⟨b1,o1,rfl⟩:∃ b1 o1,ad=⟨b1,o1,none⟩:=by
      have h:=HSr.out.1;rw [hao] at h;exact h.spot (by omega)
     obtain ⟨b2,o2,rfl⟩:∃ b2 o2,bd=⟨b2,o2,none⟩:=by
      have h:=HSr.out.2;rw [hbo] at h;exact h.spot (by omega)
     obtain ⟨x,Hx⟩:∃ e,Hid (a.rs.getD k rc0=e):=⟨_,rfl⟩;obtain ⟨y,Hy⟩:∃ e,Hid (b.rs.getD k rc0=e):=⟨_,rfl⟩
     have Ht:Hid (a.rs.take (k+1)=a.rs.take k++[x]/\b.rs.take (k+1)=b.rs.take k++[y]):=by
      rw [<- Hx.out,<- Hy.out];exact ⟨takeR4 _ _ (by rw [HLr.out.1];exact hlt),takeR4 _ _ (by rw [HLr.out.2];exact hlt)⟩
     have HSo:Hid (∀ W,Below wk.heap.size wk W -> PSrc W x.p/\PSrc W y.p):=fun W hW=>by
      have h1:=(HSr.out.1.below hW).okAt k Hlt.out;have h2:=(HSr.out.2.below hW).okAt k Hlt.out;rw [Hx.out] at h1;rw [Hy.out] at h2;exact ⟨h1.1,h2.1⟩
     have HSt:Hid (∀ W,Below wk.heap.size wk W -> (W.cell? ⟨G,3,none⟩=some (.slice (some ⟨b1,o1,none⟩) m a.rc)/\W.cell? ⟨G+1,3,none⟩=some (.slice (some ⟨b2,o2,none⟩) m b.rc))/\(W.cell? ⟨b1,o1+k * 3,none⟩=some (.string x.s)/\W.cell? ⟨b2,o2+k * 3,none⟩=some (.string y.s))/\(ldP (.pointer (some ⟨b1,o1+k * 3+1,none⟩))).run Tryz.prog W = .ok (PV x.p) W/\(ldP (.pointer (some ⟨b2,o2+k * 3+1,none⟩))).run Tryz.prog W = .ok (PV y.p) W):=fun W hW=>by
      have hc:=HCr.out W hW;rw [hao,hbo] at hc;have A:=(HSr.out.1.below hW).at_ _ hao k Hlt.out;have B:=(HSr.out.2.below hW).at_ _ hbo k Hlt.out;rw [Hx.out,Addr.add_lit] at A;rw [Hy.out,Addr.add_lit] at B;exact ⟨⟨hc.1,hc.2⟩,⟨A.flat.1,B.flat.1⟩,run_ldP A.flat.2,run_ldP B.flat.2⟩
     have HBd:=hide (HK.out.2.trans ((below_drew1 wr).mono HK.out.2.size));clear hlt hk;rw [hao] at c3;rw [hbo] at d3;clear hao hbo;by_cases hs:x.s=y.s
     ·have Hs:=hide hs
      have hq:(x.s.toList == y.s.toList)=true:=by rw [hs];simp
      clear hs;go_upto_region 11 with fail;clear c3 d3;refine wp_region_held_drew (S:=fun W=>(W.cell? ⟨G,3,none⟩=some (.slice (some ⟨b1,o1,none⟩) m a.rc)/\W.cell? ⟨G+1,3,none⟩=some (.slice (some ⟨b2,o2,none⟩) m b.rc))/\(W.cell? ⟨b1,o1+k * 3,none⟩=some (.string x.s)/\W.cell? ⟨b2,o2+k * 3,none⟩=some (.string y.s))/\(ldP (.pointer (some ⟨b1,o1+k * 3+1,none⟩))).run Tryz.prog W = .ok (PV x.p) W/\(ldP (.pointer (some ⟨b2,o2+k * 3+1,none⟩))).run Tryz.prog W = .ok (PV y.p) W) (by kernel_rfl) (HSt.out _ HBd.out) (fun hHeld=>?_);refine wU 0 ?_;refine wU 1 ?_;refine wU 2 ?_;refine wU 3 ?_;refine wU 4 ?_;refine wU 5 ?_;refine wU 6 ?_;refine wU 7 ?_;refine wU 8 ?_;refine wU 9 ?_;refine wU 10 ?_;refine wU 11 ?_;refine wU 12 ?_;refine wU 13 ?_;refine wU 14 ?_;refine wU 15 ?_;refine wU 16 ?_;refine wU 17 ?_;refine wU 18 ?_;refine wU 19 ?_
      refine wU 20 ?_;refine wU 21 ?_;refine wU 22 ?_;refine wU 23 ?_;refine wU 24 ?_;refine wU 25 ?_;refine wpAnyH_ready (rs:=[26]) (by kernel_rfl) (by simp) (.cons rfl (fun K hK=>?_) .nil);go_simp;go_wp2_with fail;refine (samePast_any x.p y.p _ (HSo.out _ HBd.out).1 (HSo.out _ HBd.out).2).mono ?_;rintro z w7 ⟨v,rfl,hv,b7⟩;have HB7:=wTr HBd b7;clear b7;refine hK.out _ _ (HSt.out _ HB7.out) (fun hHeld=>?_);clear hK K
      cases v with
      | true =>
       have HN:Hid (plR (a.rs.take (k+1))=plR (b.rs.take (k+1))/\Below wk.heap.size wk w7):=⟨by rw [Ht.out.1,Ht.out.2,plR_sn,plR_sn,HK.out.1];unfold rck;rw [Hs.out,hv.1 rfl],HB7.out⟩;clear hv;refine wU 27 ?_;refine wU 28 ?_;refine wpAnyH_done (by kernel_rfl) ?_ _;clear hHeld;go_wp2_with fail;go_roundw
       case rel=>exact ⟨k+1,Hlt.out,by simp,HN.out⟩
       case measure=>simp [intOf];have:=Hlt.out;omega
      | false =>
       have HE:=hide (HNo.out _ HB7.out fun h=>by
        have h3:=plR_get h.2.2 k;rw [Hx.out,Hy.out] at h3
        exact absurd (hv.2 h3.2) (by decide))
       clear hv;refine wU 27 ?_;refine wU 28 ?_;refine wpAnyH_done (by kernel_rfl) ?_ _;clear hHeld;go_wp2_with fail;go_ret;exact HE.out
     ·have hne:¬ x.s=y.s:=hs;have hq:(x.s.toList == y.s.toList)=false:=Bool.eq_false_iff.2 fun h=>hne (str_eqL h)
      have HE:=hide (HNo.out _ HBd.out fun h=>by
        have h3:=plR_get h.2.2 k;rw [Hx.out,Hy.out] at h3
        exact hne h3.1)
      clear hs hne;go_upto_region 11 with fail;clear c3 d3;refine wp_region_held_drew (S:=fun W=>(W.cell? ⟨G,3,none⟩=some (.slice (some ⟨b1,o1,none⟩) m a.rc)/\W.cell? ⟨G+1,3,none⟩=some (.slice (some ⟨b2,o2,none⟩) m b.rc))/\(W.cell? ⟨b1,o1+k * 3,none⟩=some (.string x.s)/\W.cell? ⟨b2,o2+k * 3,none⟩=some (.string y.s))/\(ldP (.pointer (some ⟨b1,o1+k * 3+1,none⟩))).run Tryz.prog W = .ok (PV x.p) W/\(ldP (.pointer (some ⟨b2,o2+k * 3+1,none⟩))).run Tryz.prog W = .ok (PV y.p) W) (by kernel_rfl) (HSt.out _ HBd.out) (fun hHeld=>?_);refine wU 0 ?_;refine wU 1 ?_;refine wU 2 ?_;refine wU 3 ?_;refine wU 4 ?_;refine wU 5 ?_;refine wU 6 ?_;refine wU 7 ?_;refine wU 8 ?_;refine wU 9 ?_;refine wU 10 ?_;refine wU 11 ?_;refine wU 12 ?_;refine wU 13 ?_;refine wV 14 ?_;refine wV 15 ?_;refine wV 16 ?_;refine wV 17 ?_;refine wV 18 ?_;refine wV 19 ?_
      refine wV 20 ?_;refine wV 21 ?_;refine wV 22 ?_;refine wV 23 ?_;refine wV 24 ?_;refine wV 25 ?_;refine wV 26 ?_;refine wV 27 ?_;refine wU 28 ?_;refine wpAnyH_done (by kernel_rfl) ?_ _;clear hHeld hq;go_wp2_with fail;go_ret;exact HE.out
    ·have hlti:¬ (k:Int) < (m:Int):=by omega
     have HE:Hid (GivB w wr (.returned (.bool true)) (EqS a b)):=⟨true,rfl,BIf.yes ⟨HEs.out,HP.out,by
      have h:=HK.out.1;rw [List.take_of_length_le (by have:=HLr.out.1;omega),List.take_of_length_le (by have:=HLr.out.2;omega)] at h
      exact h⟩,HBK.out.trans (HK.out.2.mono HBK.out.size)⟩
     clear hlt hk;go_wp2_with fail;go_ret;exact HE.out
end
section
open Go.RowKit
def sx1:K.En:=⟨0,1,⟨#[65]⟩,5⟩
def sxP:Pst:=⟨[1],[]⟩
def A1D (s:Fc):Prop:=s.es=[sx1]/\s.an=1/\s.p.P=sxP/\s.rs=[]/\s.rn=0/\s.rc=0
def sxC:Array Value:=#[.int .i64 0,.int .i64 1,.string ⟨#[65]⟩,.int .i64 5]
def bsX1 (a:Array (Nat × Value)):Sem Value:=Instr.buildSlice 22 1 a
theorem bsX1_eq (a:Array (Nat × Value)):Instr.buildSlice 22 1 a=bsX1 a:=rfl
theorem run_bsX1 (w:World):(bsX1 #[(0,.agg #[.int .i64 0,.int .i64 1,.string ⟨#[65]⟩,.int .i64 5])]).run Tryz.prog w = .ok (.slice (some ⟨w.heap.size,0,none⟩) 1 1) (w.alloc (.cells sxC 66)):=by kernel_rfl
theorem run_bldS01 (a v:Option Addr) (n c m d:Nat) (w:World):(bldS #[(0,.slice a n c),(1,.agg #[.slice v m d,.slice none 0 0])]).run Tryz.prog w = .ok (.agg #[.slice a n c,.slice v m d,.slice none 0 0,.slice none 0 0]) w:=by kernel_rfl
theorem sxC_src (w:World) (g:Nat) (hg:w.heap.size=g):K.ESrc (w.alloc (.cells sxC 66)) (some ⟨g,0,none⟩) 1 1 [sx1]:=by
 subst hg;refine ⟨rfl,(fun h=>by cases h),fun ad h t ht=>?_,?_,(show (1:Nat) <= 3518437208883 by decide)⟩
 ·obtain rfl:=Option.some.inj h;have h1:=heap_alloc_new w (.cells sxC 66);have ht2:t < 1:=ht;generalize w.alloc (.cells sxC 66)=W at h1 ⊢;generalize w.heap.size=g at h1 ⊢;clear h ht
  obtain rfl:t=0:=by omega
  refine ⟨?_,?_,?_,?_⟩ <;> simp [Addr.add,World.cell?,h1,sxC,sx1]
 ·intro e he;obtain rfl:=List.mem_singleton.1 he;exact (show (1:Nat) <= maxLen by decide)
theorem madeSx (w:World) (m:Fc) (g:Nat) (hg:w.heap.size=g):∃ w':World,(stSw (.pointer (some ⟨g,0,none⟩)) (.agg (FaC (mkF m)))).run Tryz.prog (w.alloc (.cells (FaC (mkF fz0)) 29)) = .ok () w'/\SwBox w' g (mkF m)/\Below w.heap.size w w'/\w'.heap.size=w.heap.size+1:=by
 subst hg;exact ⟨_,run_stSw (SwBox_new w _),(SwBox_new w _).setRow,below_setRow (below_new w _) (Nat.le_refl _),by simp [World.setRow]⟩
attribute [local go_sem ↓] ldP_eq stP_eq ldSw_eq stSw_eq bldS_eq bsX1_eq bldE_eq bldP_eq bldD_eq
attribute [local go_sem] cells_PV PC_size cells_FaV FaC_size zero_FaZ run_bldS01 run_bsX1 run_bldE run_bldD run_bldP1
theorem a1_any (w:World):Calls Tryz.prog 18 #[] w fun e w'=>SwS w w' e A1D:=by
 have b0:=below_new w (.cells (FaC (mkF fz0)) 29);have X0:=SwBox_new w (mkF fz0);obtain ⟨w0,hw0⟩:∃ w0,w.alloc (.cells (FaC (mkF fz0)) 29)=w0:=⟨_,rfl⟩;obtain ⟨G,hG⟩:∃ G,w.heap.size=G:=⟨_,rfl⟩;rw [hw0] at b0 X0;rw [hG] at X0;have HX:=hide X0;have HB:=hide b0;have HGs:Hid (w.heap.size=G):=hG;clear b0 X0;obtain ⟨g4,hg4⟩:∃ g,w0.heap.size=g:=⟨_,rfl⟩;have lb:=run_bsX1 w0;have S4:=sxC_src w0 g4 hg4;have b4:=below_new w0 (.cells sxC 66)
 have z4:(w0.alloc (.cells sxC 66)).heap.size=g4+1:=by simp [hg4]
 obtain ⟨w4,hw4⟩:∃ w4,w0.alloc (.cells sxC 66)=w4:=⟨_,rfl⟩;rw [hw4] at lb S4 b4 z4;rw [hg4] at lb;have V5:=vsrc_lit w4 3 #[.int .i64 1] [1] rfl (g4+1) 1 z4 rfl;have b5:=below_new w4 (.cells #[.int .i64 1] 3);obtain ⟨w5,hw5⟩:∃ w5,w4.alloc (.cells #[.int .i64 1] 3)=w5:=⟨_,rfl⟩;rw [hw5] at V5 b5;have A5:=(HX.out.below b4).below b5;have HB5:=hide (HB.out.trans ((b4.trans (b5.mono b4.size)).mono HB.out.size));have HF5:FcOk w5 ⟨some ⟨g4,0,none⟩,1,1,[sx1],⟨some ⟨g4+1,0,none⟩,1,1,none,0,0,sxP⟩,none,0,0,[]⟩:=⟨S4.below b5,⟨V5,SSrc.empty _,(show (1:Nat) <= 17592186044415 by decide)⟩,RcS.empty _⟩;have HE1:Hid (SwBox (w5.setRow G (FaC (mkF ⟨some ⟨g4,0,none⟩,1,1,[sx1],⟨some ⟨g4+1,0,none⟩,1,1,none,0,0,sxP⟩,none,0,0,[]⟩))) G (mkF ⟨some ⟨g4,0,none⟩,1,1,[sx1],⟨some ⟨g4+1,0,none⟩,1,1,none,0,0,sxP⟩,none,0,0,[]⟩)):=A5.setRow
 have HE:Hid (SwS w (w5.setRow G (FaC (mkF ⟨some ⟨g4,0,none⟩,1,1,[sx1],⟨some ⟨g4+1,0,none⟩,1,1,none,0,0,sxP⟩,none,0,0,[]⟩))) (.returned (FaV (mkF ⟨some ⟨g4,0,none⟩,1,1,[sx1],⟨some ⟨g4+1,0,none⟩,1,1,none,0,0,sxP⟩,none,0,0,[]⟩))) A1D):=⟨_,rfl,HF5.offW A5 _,below_setRow HB5.out (by rw [HGs.out];exact Nat.le_refl _),rfl,rfl,rfl,rfl,rfl,rfl⟩;have stz:=run_stSw (m':=mkF ⟨some ⟨g4,0,none⟩,1,1,[sx1],⟨some ⟨g4+1,0,none⟩,1,1,none,0,0,sxP⟩,none,0,0,[]⟩) A5;replace stz:(stSw (.pointer (some ⟨G,0,none⟩)) (.agg #[.slice (some ⟨g4,0,none⟩) 1 1,.slice (some ⟨g4+1,0,none⟩) 1 1,.slice none 0 0,.slice none 0 0])).run Tryz.prog w5 = .ok () (w5.setRow G (FaC (mkF ⟨some ⟨g4,0,none⟩,1,1,[sx1],⟨some ⟨g4+1,0,none⟩,1,1,none,0,0,sxP⟩,none,0,0,[]⟩))):=stz;clear S4 b4 V5 b5 A5 HF5;go_enter Tryz.func18,Tryz.ntmps18
 go_wp2_with fail;refine bodyPost_ret (res1Sw rfl rfl HE1.out) rfl ?_;exact HE.out
end
section
open Go.RowKit
attribute [local go_sem ↓] ldP_eq stP_eq ldSw_eq stSw_eq bldS_eq bsPs_eq
attribute [local go_sem] cells_PV PC_size cells_FaV FaC_size zero_FaZ run_bsPs run_bldS run_bldS0 zero_PC
theorem swJoin_any (N M:Nat) (hNM:N+M <= 4) (a b:Fc) (w:World) (hA:SwB N w a) (hB:SwB M w b):Calls Tryz.prog 11 #[FaV (mkF a),FaV (mkF b)] w fun e w'=>SwJ (N+M) w w' e (SjD a b):=by
 obtain ⟨w1,hw1,HX1,HY1,HB1,z1⟩:=box2J w a b;have b2:=below_new w1 (.cells (FaC (mkF fz0)) 29);have X2:=SwBox_new w1 (mkF fz0);rw [z1] at X2;obtain ⟨wk,hwk⟩:∃ w2,w1.alloc (.cells (FaC (mkF fz0)) 29)=w2:=⟨_,rfl⟩;rw [hwk] at b2 X2;have HX:=hide (HX1.out.below b2);have HY:=hide (HY1.out.below b2);have HBK:=wTr HB1 b2;obtain ⟨G,hG0⟩:∃ G,w.heap.size=G:=⟨_,rfl⟩;rw [hG0] at HX HY X2 z1;have HZ:=hide X2;have HGs:Hid (w.heap.size=G):=hG0;have HA:=hide (hA.below HBK.out);have HB:=hide (hB.below HBK.out);have HN:=hide hNM;have hrn:a.rn <= N * 209716/\a.an <= N * 1048576:=⟨hA.rn,hA.an⟩;have hqn:b.rn <= M * 209716/\b.an <= M * 1048576:=⟨hB.rn,hB.an⟩
 have HRN:Hid (a.rn+b.rn <= (N+M) * 209716/\a.an+b.an <= (N+M) * 1048576/\a.rn+b.rn <= 838864/\a.an+b.an <= 4194304):=by
  have e1:(N+M) * 209716=N * 209716+M * 209716:=Nat.add_mul _ _ _;have e2:(N+M) * 1048576=N * 1048576+M * 1048576:=Nat.add_mul _ _ _;exact ⟨by omega,by omega,by omega,by omega⟩
 have l1:=run_ldSw HX.out;have l2:=run_ldSw HY.out;clear hA hB b2 X2 HX1 HY1 HB1 hrn hqn hNM;go_enter Tryz.func11,Tryz.ntmps11;go_wp2_with fail;clear hw1 hwk hG0 z1 l1 l2;refine (swBoth_any a b _ (HA.out.u (by have:=HN.out;omega)) (HB.out.u (by have:=HN.out;omega))).mono ?_;rintro e w3 ⟨x,rfl,hx,b3⟩;have HB3:=hide b3;clear b3;rcases hx with ⟨hf,rfl⟩ | ⟨hf,rfl⟩;rotate_left
 ·have Az:=HZ.out.below HB3.out;have st:=run_stSw (m':=mkF fz0) Az;have HE1:Hid (SwBox (w3.setRow (G+2) (FaC (mkF fz0))) (G+2) (mkF fz0)):=Az.setRow;have HE:Hid (SwJ (N+M) w (w3.setRow (G+2) (FaC (mkF fz0))) (.returned (.tuple #[FaV (mkF fz0),.int .i64 1])) (SjD a b)):=⟨fz0,1,rfl,fz0_b _ _,below_setRow (HBK.out.trans (HB3.out.mono HBK.out.size)) (by rw [HGs.out];omega),.inl ⟨hf,rfl,rfl⟩⟩;clear hf Az;go_wp2_with fail;clear st;refine bodyPost_ret (res2Sw rfl rfl rfl HE1.out) rfl ?_;exact HE.out
 have HFo:=hide hf;clear hf;obtain ⟨c0,-⟩:=(HX.out.below HB3.out).cs;obtain ⟨d0,-⟩:=(HY.out.below HB3.out).cs;have lp:=run_ldP (HX.out.below HB3.out).past;have lq:=run_ldP (HY.out.below HB3.out).past;go_wp2_with fail;clear c0 d0 lp lq;refine (merge_any a.ao b.ao a.an a.ac b.an b.ac a.es b.es a.p b.p _ (HA.out.ok.es.below HB3.out) (HB.out.ok.es.below HB3.out) (HA.out.ok.p.below HB3.out) (HB.out.ok.p.below HB3.out)).mono ?_;rintro e w4 ⟨za,zn,zc,Z,er,rfl,SZ,b4,MD⟩;have HB4:=wTr HB3 b4;have HMD:=hide MD;have HSZ:=hide SZ;clear b4 MD SZ;by_cases h0:er=0;rotate_left
 ·have hz1:((er:Int) == 0)=false:=by simpa using h0
  have hz2:decide ((er:Int)=0)=false:=by simpa using h0
  have Az:=HZ.out.below HB4.out;have st:=run_stSw (m':=mkF fz0) Az;have HE1:Hid (SwBox (w4.setRow (G+2) (FaC (mkF fz0))) (G+2) (mkF fz0)):=Az.setRow;have HE:Hid (SwJ (N+M) w (w4.setRow (G+2) (FaC (mkF fz0))) (.returned (.tuple #[FaV (mkF fz0),.int .i64 er])) (SjD a b)):=⟨fz0,er,rfl,fz0_b _ _,below_setRow (HBK.out.trans (HB4.out.mono HBK.out.size)) (by rw [HGs.out];omega),.inr ⟨HFo.out,Z,er,HMD.out,.inl ⟨h0,rfl,rfl⟩⟩⟩;clear Az;go_wp2_with fail;clear st;refine bodyPost_ret (res2Sw rfl rfl rfl HE1.out) rfl ?_;exact HE.out
 subst h0
 have HKe:Hid (K.chk Z=0/\Z.length <= a.es.length+b.es.length):=by
  rcases HMD.out with ⟨-,-,h⟩ | ⟨-,-,-,h⟩ | ⟨h1,-,-,h2,h3⟩
  ·cases h
  ·cases h
  ·exact kept_asc h1 h2 h3
 have lp:=run_ldP (HX.out.below HB4.out).past;have lq:=run_ldP (HY.out.below HB4.out).past;have hPR:=prow2 w4 a.p b.p (HA.out.ok.p.below HB4.out) (HB.out.ok.p.below HB4.out);have b7:=below_new w4 (.cells #[.slice a.p.vo a.p.vn a.p.vc,.slice a.p.co a.p.cn a.p.cc,.slice b.p.vo b.p.vn b.p.vc,.slice b.p.co b.p.cn b.p.cc] 26);have lb:=run_bsPs a.p b.p w4;obtain ⟨g7,hg7⟩:∃ g7,w4.heap.size=g7:=⟨_,rfl⟩;obtain ⟨w7,hw7⟩:∃ w7,w4.alloc (.cells #[.slice a.p.vo a.p.vn a.p.vc,.slice a.p.co a.p.cn a.p.cc,.slice b.p.vo b.p.vn b.p.vc,.slice b.p.co b.p.cn b.p.cc] 26)=w7:=⟨_,rfl⟩;rw [hw7] at hPR b7 lb;rw [hg7] at hPR lb;have HPR:=hide hPR;have HB7:=wTr HB4 b7;have HZ7:=hide (HSZ.out.below b7);clear hPR b7;go_wp2_with fail;clear lp lq lb hg7 hw7;refine (pastJoin_any (some ⟨g7,0,none⟩) 2 2 [a.p,b.p] _ HPR.out (bsP2_wt HFo.out.1.1.2.1 HFo.out.2.1.2.1) (by decide)).mono ?_
 rintro e wq ⟨q,rfl,Sq,-,bq,Cq⟩;obtain ⟨g8,hg8⟩:∃ g,wq.heap.size=g:=⟨_,rfl⟩;obtain ⟨w8,hst,X8,B8,-⟩:=madeP wq q g8 hg8;have b78:=bq.trans (B8.mono bq.size);have HB8:=wTr HB7 b78;have HZ8:=hide (HZ7.out.below b78);have HQ8:Hid (PBox w8 g8 q/\PSrc w8 q):=⟨X8,Sq.below B8⟩;have HCq:=hide Cq;clear Sq bq Cq X8 B8 b78;obtain ⟨-,c3⟩:=(HX.out.below HB8.out).cs;obtain ⟨-,d3⟩:=(HY.out.below HB8.out).cs;go_wp2_with fail;clear c3 d3 hst hg8;refine (keepUnion_any a.ro b.ro a.rn a.rc b.rn b.rc a.rs b.rs _ ((HA.out.ok.row HA.out.row).below HB8.out) ((HB.out.ok.row HB.out.row).below HB8.out) (by have:=HRN.out;omega)).mono ?_;rintro e w9 (⟨-,-,⟨uo,un,uc⟩,U,rfl,GU,nU,UU⟩ | ⟨hno,-,-⟩);rotate_left
 ·exact absurd ⟨HFo.out.1.1.2.2,HFo.out.2.1.2.2⟩ hno
 have HB9:=wTr HB8 GU.below;have HZ9:=hide (HZ8.out.below GU.below);have HQ9:Hid (PBox w9 g8 q/\PSrc w9 q):=⟨HQ8.out.1.below GU.below,HQ8.out.2.below GU.below⟩;have HU:Hid (RcT w9 uo un uc U/\UnOf a.rs b.rs U/\un <= a.rn+b.rn/\U.length=un):=⟨GU.row,UU,nU,GU.src.len⟩;have HUc:=hide (un_cl HU.out.2.1 HA.out.cl HB.out.cl)
 have HUO:Hid (OkR U un):=by have h:=HU.out.2.1.ok;rw [HU.out.2.2.2] at h;exact h
 rw [show HsV ⟨uo,un,uc⟩=Value.slice uo un uc from rfl];clear GU nU UU
 have HZn:Hid (zn <= a.an+b.an):=by
  have h1:=HKe.out.2;have h2:=HSZ.out.1;have h3:=HA.out.ok.es.1;have h4:=HB.out.ok.es.1
  show zn <= a.an+b.an
  omega
 go_wp2_with fail;refine (apply_any za uo zn zc un uc Z U _ HZ9.out HU.out.1.src (wt_cl (by have:=HU.out.2.2;have:=HRN.out;omega) HUc.out) (nm_cl (by have:=HU.out.2.2;have:=HRN.out;omega) (by have:=HZn.out;have:=HRN.out;omega))).mono ?_;rintro e wa (⟨-,-,ya,yn,yc,rfl,SY,ba,-⟩ | ⟨hno,-⟩);rotate_left
 ·exact absurd ⟨HKe.out.1,HUO.out⟩ hno
 have HBa:=wTr HB9 ba;have HQa:Hid (PBox wa g8 q/\PSrc wa q):=⟨HQ9.out.1.below ba,HQ9.out.2.below ba⟩;have HUa:=hide (HU.out.1.below ba);have HYa:=hide SY
 have HYn:Hid (yn <= a.an+b.an):=by
  have h1:=SY.1;have h2:=List.length_filter_le (freeB U) Z;have h3:=HSZ.out.1;have h4:=HZn.out
  show yn <= a.an+b.an
  omega
 clear SY ba
 have lp:=run_ldP HQa.out.1.at
 go_wp2_with fail;clear lp;refine (keepWaits_any uo un uc U q _ HUa.out HQa.out.2 (by have:=HU.out.2.2;have:=HRN.out;omega)).mono ?_;rintro e wb (⟨-,-,⟨fo,fn,fc⟩,F,rfl,GF,nF,WF⟩ | ⟨hno,-,-⟩);rotate_left
 ·exact absurd ⟨HUO.out,canon_iff.1 HCq.out.canon⟩ hno
 have HBb:=wTr HBa GF.below;have HQb:Hid (PBox wb g8 q/\PSrc wb q):=⟨HQa.out.1.below GF.below,HQa.out.2.below GF.below⟩;have HYb:=hide (HYa.out.below GF.below);have Az:=HZ.out.below HBb.out;have st:=run_stSw (m':=mkF ⟨ya,yn,yc,[],q,fo,fn,fc,[]⟩) Az;have HE1:Hid (SwBox (wb.setRow (G+2) (FaC (mkF ⟨ya,yn,yc,[],q,fo,fn,fc,[]⟩))) (G+2) (mkF ⟨ya,yn,yc,Z.filter (freeB U),q,fo,fn,fc,F⟩)):=Az.setRow
 have HE:Hid (SwJ (N+M) w (wb.setRow (G+2) (FaC (mkF ⟨ya,yn,yc,[],q,fo,fn,fc,[]⟩))) (.returned (.tuple #[FaV (mkF ⟨ya,yn,yc,Z.filter (freeB U),q,fo,fn,fc,F⟩),.int .i64 0])) (SjD a b)):=
  ⟨_,0,rfl,⟨FcOk.offW (f:=⟨ya,yn,yc,Z.filter (freeB U),q,fo,fn,fc,F⟩) ⟨HYb.out,HQb.out.2,GF.src⟩ Az _,⟨GF.room,GF.nil⟩,by have h1:=HU.out.2.2.1;have h2:=HRN.out.1;have h3:fn <= un:=nF;show fn <= _;omega,by have h1:=HYn.out;have h2:=HRN.out.2.1;show yn <= _;omega,wt_clF WF HUc.out⟩,
   below_setRow (HBK.out.trans (HBb.out.mono HBK.out.size)) (by rw [HGs.out];omega),.inr ⟨HFo.out,Z,0,HMD.out,.inr ⟨rfl,rfl,U,HU.out.2.1,rfl,HCq.out,WF⟩⟩⟩
 have lp:=run_ldP HQb.out.1.at
 rw [show HsV ⟨fo,fn,fc⟩=Value.slice fo fn fc from rfl];clear GF nF WF Az;go_wp2_with fail;clear lp st;refine bodyPost_ret (res2Sw rfl rfl rfl HE1.out) rfl ?_;exact HE.out
end
section
open Go.RowKit
def G1D (s:Fc):Prop:=s.es=[]/\s.an=0/\s.p.P=sxP/\s.rs=[]/\s.rn=0/\s.rc=0
theorem run_bldS1 (v:Option Addr) (m d:Nat) (w:World):(bldS #[(1,.agg #[.slice v m d,.slice none 0 0])]).run Tryz.prog w = .ok (.agg #[.slice none 0 0,.slice v m d,.slice none 0 0,.slice none 0 0]) w:=by kernel_rfl
attribute [local go_sem ↓] ldP_eq stP_eq ldSw_eq stSw_eq bldS_eq bldP_eq
attribute [local go_sem] cells_PV PC_size cells_FaV FaC_size zero_FaZ run_bldS1 run_bldP1
theorem gone1_any (w:World):Calls Tryz.prog 30 #[] w fun e w'=>SwS w w' e G1D:=by
 have b0:=below_new w (.cells (FaC (mkF fz0)) 29);have X0:=SwBox_new w (mkF fz0);obtain ⟨w0,hw0⟩:∃ w0,w.alloc (.cells (FaC (mkF fz0)) 29)=w0:=⟨_,rfl⟩;obtain ⟨G,hG⟩:∃ G,w.heap.size=G:=⟨_,rfl⟩;rw [hw0] at b0 X0;rw [hG] at X0;have HX:=hide X0;have HB:=hide b0;have HGs:Hid (w.heap.size=G):=hG;clear b0 X0;obtain ⟨g4,hg4⟩:∃ g,w0.heap.size=g:=⟨_,rfl⟩;have V5:=vsrc_lit w0 3 #[.int .i64 1] [1] rfl g4 1 hg4 rfl;have b5:=below_new w0 (.cells #[.int .i64 1] 3);obtain ⟨w5,hw5⟩:∃ w5,w0.alloc (.cells #[.int .i64 1] 3)=w5:=⟨_,rfl⟩;rw [hw5] at V5 b5;have A5:=HX.out.below b5;have HB5:=wTr HB b5;have HF5:FcOk w5 ⟨none,0,0,[],⟨some ⟨g4,0,none⟩,1,1,none,0,0,sxP⟩,none,0,0,[]⟩:=⟨(fz0_ok w5).es,⟨V5,SSrc.empty _,(show (1:Nat) <= 17592186044415 by decide)⟩,RcS.empty _⟩;have HE1:Hid (SwBox (w5.setRow G (FaC (mkF ⟨none,0,0,[],⟨some ⟨g4,0,none⟩,1,1,none,0,0,sxP⟩,none,0,0,[]⟩))) G (mkF ⟨none,0,0,[],⟨some ⟨g4,0,none⟩,1,1,none,0,0,sxP⟩,none,0,0,[]⟩)):=A5.setRow
 have HE:Hid (SwS w (w5.setRow G (FaC (mkF ⟨none,0,0,[],⟨some ⟨g4,0,none⟩,1,1,none,0,0,sxP⟩,none,0,0,[]⟩))) (.returned (FaV (mkF ⟨none,0,0,[],⟨some ⟨g4,0,none⟩,1,1,none,0,0,sxP⟩,none,0,0,[]⟩))) G1D):=⟨_,rfl,HF5.offW A5 _,below_setRow HB5.out (by rw [HGs.out];exact Nat.le_refl _),rfl,rfl,rfl,rfl,rfl,rfl⟩;have stz:=run_stSw (m':=mkF ⟨none,0,0,[],⟨some ⟨g4,0,none⟩,1,1,none,0,0,sxP⟩,none,0,0,[]⟩) A5;replace stz:(stSw (.pointer (some ⟨G,0,none⟩)) (.agg #[.slice none 0 0,.slice (some ⟨g4,0,none⟩) 1 1,.slice none 0 0,.slice none 0 0])).run Tryz.prog w5 = .ok () (w5.setRow G (FaC (mkF ⟨none,0,0,[],⟨some ⟨g4,0,none⟩,1,1,none,0,0,sxP⟩,none,0,0,[]⟩))):=stz;clear V5 b5 A5 HF5;go_enter Tryz.func30,Tryz.ntmps30;go_wp2_with fail;refine bodyPost_ret (res1Sw rfl rfl HE1.out) rfl ?_;exact HE.out
theorem sx_form:InForm sxP:=⟨by decide,trivial⟩
theorem a1_form {s:Fc} (h:A1D s):FormS s:=by
 obtain ⟨h1,h2,h3,h4,h5,-⟩:=h;refine ⟨⟨by rw [h1,h2];decide +kernel,by rw [h3];exact sx_form,by rw [h4,h5];intro j hj;omega⟩,?_,?_,?_⟩
 ·rw [h1,h3];intro e he;obtain rfl:=List.mem_singleton.1 he;decide +kernel
 ·rw [h4];intro r hr;cases hr
 ·rw [h4];intro e he;rfl
theorem g1_form {s:Fc} (h:G1D s):FormS s:=by
 obtain ⟨h1,h2,h3,h4,h5,-⟩:=h;refine ⟨⟨by rw [h1,h2];rfl,by rw [h3];exact sx_form,by rw [h4,h5];intro j hj;omega⟩,?_,?_,?_⟩
 ·rw [h1];intro e he;cases he
 ·rw [h4];intro r hr;cases hr
 ·rw [h1];intro e he;cases he
theorem fz_form:FormS fz0:=⟨⟨rfl,⟨by decide,trivial⟩,fun j hj=>by cases hj⟩,fun e he=>(by cases he),fun r hr=>(by cases hr),fun e he=>(by cases he)⟩
theorem A1D.b {w:World} {s:Fc} (h:A1D s) (hF:FcOk w s):SwB 1 w s:=by
 obtain ⟨h1,h2,h3,h4,h5,h6⟩:=h;exact ⟨hF,⟨by omega,fun _=>h6⟩,by omega,by omega,by rw [h4];intro r hr;cases hr⟩
theorem G1D.b {w:World} {s:Fc} (h:G1D s) (hF:FcOk w s):SwB 1 w s:=by
 obtain ⟨h1,h2,h3,h4,h5,h6⟩:=h;exact ⟨hF,⟨by omega,fun _=>h6⟩,by omega,by omega,by rw [h4];intro r hr;cases hr⟩
theorem un_none {U:List Rc} (u:UnOf [] [] U):U=[]:=by
 cases U with
 | nil=>rfl
 | cons r U =>
  have h:=(u.1.2 (rck r)).1 (List.mem_map.2 ⟨r,List.mem_cons_self,rfl⟩);rcases h with h | h <;> cases h
theorem sx_clash:¬ K.Clash ([sx1]++[]):=by
 rintro ⟨x,hx,y,hy,-,h⟩;rw [List.append_nil,List.mem_singleton] at hx hy;exact h (hx.trans hy.symm)
theorem sx_chk:K.chk [sx1]=0:=by decide +kernel
theorem mg_gone {Z:List K.En} {e:Int} (h:MgD [sx1] [] sxP sxP Z e):e=0/\Z=[]:=by
 rcases h with ⟨h1,-⟩ | ⟨-,h1,-⟩ | ⟨-,-,rfl,-,h1⟩
 ·exact absurd ⟨sx_chk,rfl,sx_form,sx_form⟩ h1
 ·exact absurd h1 sx_clash
 ·refine ⟨rfl,?_⟩;rw [List.eq_nil_iff_forall_not_mem];intro x hx;rcases (h1 x).1 hx with ⟨h2,h3⟩ | ⟨h2,-⟩
  ·obtain rfl:=List.mem_singleton.1 h2
   have h4:stayB [] sxP sx1=false:=by decide +kernel
   rw [h4] at h3;cases h3
  ·cases h2
theorem mg_none {Z:List K.En} {e:Int} (h:MgD [sx1] [] sxP pv0.P Z e):e=0/\Z=[sx1]:=by
 rcases h with ⟨h1,-⟩ | ⟨-,h1,-⟩ | ⟨-,-,rfl,h0,h1⟩
 ·exact absurd ⟨sx_chk,rfl,sx_form,⟨by decide,trivial⟩⟩ h1
 ·exact absurd h1 sx_clash
 ·refine ⟨rfl,K.asc_unique h0 (List.pairwise_singleton _ _) (fun x=>?_)⟩;rw [h1 x];constructor
  ·rintro (⟨h2,-⟩ | ⟨h2,-⟩)
   ·exact h2
   ·cases h2
  ·intro h2;refine .inl ⟨h2,?_⟩;obtain rfl:=List.mem_singleton.1 h2
   decide +kernel
theorem sj_gone {a g s:Fc} {er:Int} (h:SjD a g s er) (ha:A1D a) (hg:G1D g):er=0/\s.es=[]/\s.p.P=sxP:=by
 rcases h with ⟨h,-⟩ | ⟨-,Z,e,hm,h⟩
 ·exact absurd ⟨a1_form ha,g1_form hg⟩ h
 rw [ha.1,hg.1,ha.2.2.1,hg.2.2.1] at hm;obtain ⟨rfl,rfl⟩:=mg_gone hm;rcases h with ⟨h,-⟩ | ⟨-,h1,U,hu,h2,h3,-⟩
 ·exact absurd rfl h
 refine ⟨h1,by rw [h2];rfl,h3.unique (canon_iff.2 sx_form) (fun r hr n=>?_)⟩
 show mem (runsAt a.p.P r++(runsAt g.p.P r++[])) n↔_
 rw [List.append_nil,mem_append,ha.2.2.1,hg.2.2.1,or_self]
theorem sj_none {a s:Fc} {er:Int} (h:SjD a fz0 s er) (ha:A1D a):er=0/\s.es=[sx1]:=by
 rcases h with ⟨h,-⟩ | ⟨-,Z,e,hm,h⟩
 ·exact absurd ⟨a1_form ha,fz_form⟩ h
 rw [ha.1,ha.2.2.1] at hm;obtain ⟨rfl,rfl⟩:=mg_none hm;rcases h with ⟨h,-⟩ | ⟨-,h1,U,hu,h2,-⟩
 ·exact absurd rfl h
 rw [ha.2.2.2.1] at hu;rw [un_none hu] at h2;exact ⟨h1,by rw [h2];rfl⟩
end
section
open Go.RowKit
attribute [local go_sem ↓] ldSw_eq stSw_eq bldS_eq
attribute [local go_sem] cells_FaV FaC_size zero_FaZ run_bldS0
theorem known_any (w:World):Calls Tryz.prog 9 #[] w fun e w'=>e = .returned (.bool true)/\Below w.heap.size w w':=by
 go_enter Tryz.func9,Tryz.ntmps9;go_wp2_with fail;refine (a1_any _).mono ?_;rintro e w2 ⟨a,rfl,Fa,ba,Da⟩;have HB2:=hide ba;have HFa:=hide Fa;have HDa:=hide Da;clear Fa ba Da;go_wp2_with fail;refine (gone1_any _).mono ?_;rintro e w3 ⟨g,rfl,Fg,bg,Dg⟩;have HB3:=wTr HB2 bg;have HFa3:=hide (HFa.out.below bg);have HFg:=hide Fg;have HDg:=hide Dg;clear Fg bg Dg;go_wp2_with fail;refine (swJoin_any 1 1 (by decide) a g _ (HDa.out.b HFa3.out) (HDg.out.b HFg.out)).mono ?_;rintro e w4 ⟨s,er,rfl,Bs,b4,Ds⟩;obtain ⟨rfl,hs,hp⟩:=sj_gone Ds HDa.out HDg.out;obtain ⟨g5,hg5⟩:∃ g,w4.heap.size=g:=⟨_,rfl⟩;obtain ⟨w5,hst,X5,B5,-⟩:=madeSx w4 s g5 hg5;have HB5:=hide (HB3.out.trans ((b4.trans (B5.mono b4.size)).mono HB3.out.size));have HX5:=hide X5;have HNs:Hid (s.an=0/\s.p.vn=1):=⟨by rw [<- Bs.ok.es.1,hs];rfl,by rw [<- Bs.ok.p.vec.1,hp];rfl⟩
 clear Bs b4 Ds hs hp X5 B5;go_wp2_with fail;clear hst hg5;refine (a1_any _).mono ?_;rintro e w6 ⟨c,rfl,Fc_,bc,Dc⟩;have HB6:=wTr HB5 bc;have HX6:=hide (HX5.out.below bc);have HFc:=hide Fc_;have HDc:=hide Dc;clear Fc_ bc Dc;go_wp2_with fail;refine (swJoin_any 1 1 (by decide) c fz0 _ (HDc.out.b HFc.out) (fz0_b 1 _)).mono ?_;rintro e w7 ⟨t,er,rfl,Bt,b7,Dt⟩;obtain ⟨rfl,ht⟩:=sj_none Dt HDc.out;obtain ⟨g8,hg8⟩:∃ g,w7.heap.size=g:=⟨_,rfl⟩;obtain ⟨w8,hst,X8,B8,-⟩:=madeSx w7 t g8 hg8;have HE:=hide (HB6.out.trans ((b7.trans (B8.mono b7.size)).mono HB6.out.size));have X6:=HX6.out.below (b7.trans (B8.mono b7.size))
 have hn1:t.an=1:=by rw [<- Bt.ok.es.1,ht];rfl
 obtain ⟨ad,hao,A0⟩:=(Bt.ok.es.below B8).at 0 (by omega);rw [ht] at A0
 obtain ⟨b1,o1,rfl⟩:∃ b1 o1,ad=⟨b1,o1,none⟩:=by
  have h1:=World.cell?_spot A0.c0;obtain ⟨b,o,sp⟩:=ad;simp at h1;subst h1;exact ⟨b,o,rfl⟩
 have hq:w8.cell? ⟨b1,o1+3,none⟩=some (.int .i64 5):=by
  have h1:=A0.c3;rw [Addr.add_lit,Addr.add_lit] at h1;have h2:w8.cell? ⟨b1,o1+0 * 4+3,none⟩=some (.int .i64 5):=h1;simpa using h2
 have c0:=X6.cs.1;have c1:=X6.c1;have d0:=X8.cs.1;rw [HNs.out.1] at c0;rw [hao,hn1] at d0;have c1':w8.cell? ⟨g5,1,none⟩=some (.slice s.p.vo s.p.vn s.p.vc):=c1;rw [HNs.out.2] at c1';clear c1 Bt b7 Dt X6 X8 B8 A0 hao hn1 ht;go_wp2_with fail;clear hst hg8;go_ret;exact ⟨rfl,HE.out⟩
end
end Go.Proofs.YtaphmhbmhcahaaaGreat
