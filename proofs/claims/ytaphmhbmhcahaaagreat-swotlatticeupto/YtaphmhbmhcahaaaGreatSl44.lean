/- SXq SYe -/
import Derived.Test.YtaphmhbmhcahaaaGreatTk
import Derived.Test.YtaphmhbmhcahaaaGreatSl28
import Derived.Test.YtaphmhbmhcahaaaGreatSl10
import Derived.Test.YtaphmhbmhcahaaaGreatSl21
import Derived.BigFrame
import Derived.Test.YtaphmhbmhcahaaaGreatSl43
set_option maxRecDepth 100000
set_option maxHeartbeats 12800000
namespace Go.Proofs.YtaphmhbmhcahaaaGreat
section
open Go.RowKit
theorem plR_get {L M:List Rc} (h:plR L=plR M) (k:Nat):(L.getD k rc0).s=(M.getD k rc0).s/\(L.getD k rc0).p.P=(M.getD k rc0).p.P:=by
 have e:∀ X:List Rc,((X.getD k rc0).s,(X.getD k rc0).p.P)=(plR X).getD k (rc0.s,rc0.p.P):=fun X=>by
  unfold plR;rw [List.getD_eq_getElem?_getD,List.getD_eq_getElem?_getD,List.getElem?_map]
  cases X[k]? <;> rfl
 have h1:=(e L).trans ((congrArg (fun X=>X.getD k (rc0.s,rc0.p.P)) h).trans (e M).symm);exact ⟨congrArg Prod.fst h1,congrArg Prod.snd h1⟩
theorem box2S (w:World) (f g:Fc):∃ wk,(w.alloc (.cells (FaC (mkF f)) 29)).alloc (.cells (FaC (mkF g)) 29)=wk/\Hid (SwBox wk w.heap.size (mkF f))/\Hid (SwBox wk (w.heap.size+1) (mkF g))/\Hid (Below w.heap.size w wk):=by
 have b1:=below_new w (.cells (FaC (mkF f)) 29);have b2:=below_new (w.alloc (.cells (FaC (mkF f)) 29)) (.cells (FaC (mkF g)) 29);have X2:=SwBox_new (w.alloc (.cells (FaC (mkF f)) 29)) (mkF g);rw [World.size_alloc] at X2;exact ⟨_,rfl,(SwBox_new w (mkF f)).below b2,X2,b1.trans (b2.mono b1.size)⟩
def EqS (f g:Fc):Prop:=f.es=g.es/\f.p.P=g.p.P/\plR f.rs=plR g.rs
attribute [local go_sem ↓] ldP_eq stP_eq ldSw_eq stSw_eq K.ld28_eq K.st28_eq K.run_eq28
attribute [local go_sem] cells_PV PC_size cells_FaV FaC_size K.eqE_self K.zero_EC K.cells_EV
theorem equal11_true (a b:Fc) (w:World) (hF:FcOk w a) (hG:FcOk w b) (hE:EqS a b):Calls Tryz.prog 12 #[FaV (mkF a),FaV (mkF b)] w fun e w'=>e = .returned (.bool true)/\Below w.heap.size w w':=by
 obtain ⟨wk,hwk,HX,HY,HBK⟩:=box2S w a b;obtain ⟨G,hG0⟩:∃ G,w.heap.size=G:=⟨_,rfl⟩;rw [hG0] at HX HY;have HS:=hide (hF.below HBK.out);have HR:=hide (hG.below HBK.out);have HE:=hide hE
 have hna:b.an=a.an:=by rw [<- HS.out.es.1,<- HR.out.es.1,hE.1]
 have hnr:b.rn=a.rn:=by
  have h1:=congrArg List.length hE.2.2;rw [plR_len,plR_len,HS.out.rs.len,HR.out.rs.len] at h1;exact h1.symm
 obtain ⟨n,hn⟩:∃ n,a.an=n:=⟨_,rfl⟩;obtain ⟨m,hm⟩:∃ n,a.rn=n:=⟨_,rfl⟩;rw [hn] at hna;rw [hm] at hnr;clear hF hG hE
 have HC:Hid (∀ W,Below wk.heap.size wk W -> (W.cell? ⟨G,0,none⟩=some (.slice a.ao n a.ac)/\W.cell? ⟨G,3,none⟩=some (.slice a.ro m a.rc))/\W.cell? ⟨G+1,0,none⟩=some (.slice b.ao n b.ac)/\W.cell? ⟨G+1,3,none⟩=some (.slice b.ro m b.rc)):=fun W h=>by
  have h1:=(HX.out.below h).cs;have h2:=(HY.out.below h).cs;rw [hn,hm] at h1;rw [hna,hnr] at h2;exact ⟨h1,h2⟩
 have HSe:Hid (K.ESrc wk a.ao n a.ac a.es/\K.ESrc wk b.ao n b.ac a.es):=⟨by rw [<- hn];exact HS.out.es,by rw [HE.out.1,<- hna];exact HR.out.es⟩;have HSr:Hid (RcS wk a.ro m a.rc a.rs/\RcS wk b.ro m b.rc b.rs):=⟨by rw [<- hm];exact HS.out.rs,by rw [<- hnr];exact HR.out.rs⟩;have hbn:=HSe.out.1.2.2.2.2;have hbm:=HSr.out.1.big;clear hn hm hna hnr;obtain ⟨⟨c0,c3⟩,d0,d3⟩:=HC.out _ (Below.refl _ _);have lp:=run_ldP HX.out.past;have lq:=run_ldP HY.out.past;go_enter Tryz.func12,Tryz.ntmps12;go_wp2_with fail;clear hwk hG0 lp lq c0 c3 d0 d3;refine (samePast_any a.p b.p _ HS.out.p HR.out.p).mono ?_;rintro e w2 ⟨v,rfl,hv,b2⟩;obtain rfl:v=true:=hv.2 HE.out.2.1;have HB2:=hide b2;obtain ⟨⟨c0,c3⟩,d0,d3⟩:=HC.out _ b2;clear hv b2;go_wp2_with fail;clear c0 c3 d0 d3;go_loopw [5] (fun i wr=>∃ k:Nat,k <= n/\i = .int .i64 (k:Int)/\Hid (Below wk.heap.size wk wr)) (fun i _=>n - (intOf i).toNat)
 case atStart=>exact ⟨0,Nat.zero_le _,rfl,HB2.out⟩
 case round =>
  obtain ⟨k,hk,rfl,HK⟩:=hrel
  rename World=>wr
  obtain ⟨⟨c0,c3⟩,d0,d3⟩:=HC.out _ HK.out;by_cases hlt:k < n
  ·have hlti:(k:Int) < (n:Int):=by omega
   obtain ⟨ad,hao,-⟩:=HSe.out.1.at k hlt;obtain ⟨bd,hbo,-⟩:=HSe.out.2.at k hlt;obtain ⟨e,He⟩:∃ e,Hid (a.es.getD k K.en0=e):=⟨_,rfl⟩;have Hlt:=hide hlt
   have HSt:Hid (∀ W,Below wk.heap.size wk W -> (W.cell? ⟨G,0,none⟩=some (.slice (some ad) n a.ac)/\W.cell? ⟨G+1,0,none⟩=some (.slice (some bd) n b.ac))/\(K.ld28 (.pointer (some (ad.add (k * 4))))).run Tryz.prog W = .ok (K.EV e) W/\(K.ld28 (.pointer (some (bd.add (k * 4))))).run Tryz.prog W = .ok (K.EV e) W):=fun W hW=>by
    have hc:=HC.out W hW;rw [hao,hbo] at hc;obtain ⟨ad',ea,A⟩:=(HSe.out.1.below hW).at k Hlt.out;obtain ⟨bd',eb,B⟩:=(HSe.out.2.below hW).at k Hlt.out;rw [hao] at ea;rw [hbo] at eb;obtain rfl:=Option.some.inj ea;obtain rfl:=Option.some.inj eb;rw [He.out] at A B;exact ⟨⟨hc.1.1,hc.2.1⟩,K.run_ld28 A,K.run_ld28 B⟩
   clear hlt hk;rw [hao] at c0;rw [hbo] at d0;clear hao hbo;go_upto_region 6 with fail;refine wp_region_held_drew (S:=fun W=>(W.cell? ⟨G,0,none⟩=some (.slice (some ad) n a.ac)/\W.cell? ⟨G+1,0,none⟩=some (.slice (some bd) n b.ac))/\(K.ld28 (.pointer (some (ad.add (k * 4))))).run Tryz.prog W = .ok (K.EV e) W/\(K.ld28 (.pointer (some (bd.add (k * 4))))).run Tryz.prog W = .ok (K.EV e) W) (by kernel_rfl) (HSt.out _ (HK.out.trans ((below_drew1 wr).mono HK.out.size))) (fun hHeld=>?_);refine wU 0 ?_;refine wU 1 ?_;refine wU 2 ?_;refine wU 3 ?_;refine wU 4 ?_;refine wU 5 ?_;refine wU 6 ?_;refine wU 7 ?_;refine wU 8 ?_;refine wU 9 ?_;refine wU 10 ?_;refine wpAnyH_done (by kernel_rfl) ?_ _;clear hHeld;clear c0 c3 d0 d3;go_wp2_with fail;go_roundw
   case rel=>exact ⟨k+1,Hlt.out,by have:=Hlt.out;simp,HK.out.trans ((below_drew1 wr).mono HK.out.size)⟩
   case measure=>simp [intOf];have:=Hlt.out;omega
  ·have hlti:¬ (k:Int) < (n:Int):=by omega
   clear hlt hk;go_wp2_with fail;clear c0 c3 d0 d3;go_loopw [6] (fun i wr=>∃ k:Nat,k <= m/\i = .int .i64 (k:Int)/\Hid (Below wk.heap.size wk wr)) (fun i _=>m - (intOf i).toNat)
   case atStart=>exact ⟨0,Nat.zero_le _,rfl,HK.out⟩
   case round =>
    clear HK hlti;obtain ⟨k,hk,rfl,HK⟩:=hrel
    rename World=>wr
    obtain ⟨⟨c0,c3⟩,d0,d3⟩:=HC.out _ HK.out;by_cases hlt:k < m
    ·have hlti:(k:Int) < (m:Int):=by omega
     obtain ⟨ad,hao,-⟩:=HSr.out.1.at k hlt;obtain ⟨bd,hbo,-⟩:=HSr.out.2.at k hlt
     obtain ⟨b1,o1,rfl⟩:∃ b1 o1,ad=⟨b1,o1,none⟩:=by
      have h:=HSr.out.1;rw [hao] at h;exact h.spot (by omega)
     obtain ⟨b2,o2,rfl⟩:∃ b2 o2,bd=⟨b2,o2,none⟩:=by
      have h:=HSr.out.2;rw [hbo] at h;exact h.spot (by omega)
     obtain ⟨x,Hx⟩:∃ x,Hid (a.rs.getD k rc0=x):=⟨_,rfl⟩;obtain ⟨y,Hy⟩:∃ y,Hid (b.rs.getD k rc0=y):=⟨_,rfl⟩
     have HXY:Hid (x.s=y.s/\x.p.P=y.p.P):=by
      have h:=plR_get HE.out.2.2 k;rw [Hx.out,Hy.out] at h;exact h
     have hsb:(x.s.toList == y.s.toList)=true:=by rw [HXY.out.1];simp
     have Hlt:=hide hlt
     have HSo:Hid (∀ W,Below wk.heap.size wk W -> PSrc W x.p/\PSrc W y.p):=fun W hW=>by
      have h1:=(HSr.out.1.below hW).okAt k Hlt.out;have h2:=(HSr.out.2.below hW).okAt k Hlt.out;rw [Hx.out] at h1;rw [Hy.out] at h2;exact ⟨h1.1,h2.1⟩
     have HSt:Hid (∀ W,Below wk.heap.size wk W -> (W.cell? ⟨G,3,none⟩=some (.slice (some ⟨b1,o1,none⟩) m a.rc)/\W.cell? ⟨G+1,3,none⟩=some (.slice (some ⟨b2,o2,none⟩) m b.rc))/\(W.cell? ⟨b1,o1+k * 3,none⟩=some (.string x.s)/\W.cell? ⟨b2,o2+k * 3,none⟩=some (.string y.s))/\(ldP (.pointer (some ⟨b1,o1+k * 3+1,none⟩))).run Tryz.prog W = .ok (PV x.p) W/\(ldP (.pointer (some ⟨b2,o2+k * 3+1,none⟩))).run Tryz.prog W = .ok (PV y.p) W):=fun W hW=>by
      have hc:=HC.out W hW;rw [hao,hbo] at hc;have A:=(HSr.out.1.below hW).at_ _ hao k Hlt.out;have B:=(HSr.out.2.below hW).at_ _ hbo k Hlt.out;rw [Hx.out,Addr.add_lit] at A;rw [Hy.out,Addr.add_lit] at B;exact ⟨⟨hc.1.2,hc.2.2⟩,⟨A.flat.1,B.flat.1⟩,run_ldP A.flat.2,run_ldP B.flat.2⟩
     have HBd:=hide (HK.out.trans ((below_drew1 wr).mono HK.out.size));clear hlt hk;rw [hao] at c3;rw [hbo] at d3;clear hao hbo;go_upto_region 11 with fail;refine wp_region_held_drew (S:=fun W=>(W.cell? ⟨G,3,none⟩=some (.slice (some ⟨b1,o1,none⟩) m a.rc)/\W.cell? ⟨G+1,3,none⟩=some (.slice (some ⟨b2,o2,none⟩) m b.rc))/\(W.cell? ⟨b1,o1+k * 3,none⟩=some (.string x.s)/\W.cell? ⟨b2,o2+k * 3,none⟩=some (.string y.s))/\(ldP (.pointer (some ⟨b1,o1+k * 3+1,none⟩))).run Tryz.prog W = .ok (PV x.p) W/\(ldP (.pointer (some ⟨b2,o2+k * 3+1,none⟩))).run Tryz.prog W = .ok (PV y.p) W) (by kernel_rfl) (HSt.out _ HBd.out) (fun hHeld=>?_);refine wU 0 ?_;refine wU 1 ?_;refine wU 2 ?_;refine wU 3 ?_;refine wU 4 ?_;refine wU 5 ?_;refine wU 6 ?_;refine wU 7 ?_;refine wU 8 ?_;refine wU 9 ?_;refine wU 10 ?_;refine wU 11 ?_;refine wU 12 ?_;refine wU 13 ?_
     refine wU 14 ?_;refine wU 15 ?_;refine wU 16 ?_;refine wU 17 ?_;refine wU 18 ?_;refine wU 19 ?_;refine wU 20 ?_;refine wU 21 ?_;refine wU 22 ?_;refine wU 23 ?_;refine wU 24 ?_;refine wU 25 ?_;refine wpAnyH_ready (rs:=[26]) (by kernel_rfl) (by simp) (.cons rfl (fun K hK=>?_) .nil);go_simp;go_wp2_with fail;refine (samePast_any x.p y.p _ (HSo.out _ HBd.out).1 (HSo.out _ HBd.out).2).mono ?_;rintro z w7 ⟨v,rfl,hv,b7⟩;obtain rfl:v=true:=hv.2 HXY.out.2;have HB7:=wTr HBd b7;clear hv b7;refine hK.out _ _ (HSt.out _ HB7.out) (fun hHeld=>?_);clear hK K;refine wU 27 ?_;refine wU 28 ?_;refine wpAnyH_done (by kernel_rfl) ?_ _;clear hHeld;clear c0 c3 d0 d3 hsb;go_wp2_with fail;go_roundw
     case rel=>exact ⟨k+1,Hlt.out,by have:=Hlt.out;simp,HB7.out⟩
     case measure=>simp [intOf];have:=Hlt.out;omega
    ·have hlti:¬ (k:Int) < (m:Int):=by omega
     have HEnd:=wTr HBK HK.out;clear hlt hk;go_wp2_with fail;clear c0 c3 d0 d3;go_ret;exact ⟨rfl,HEnd.out⟩
end
section
open Go.RowKit
theorem eqs_ab {s t:Fc} (h:ab s=ab t):EqS s t:=⟨congrArg Ab.L h,congrArg Ab.P h,congrArg Ab.R h⟩
theorem sj_comm {wa wb:World} {a b s t:Fc} {e f:Int} (hA:FcOk wa a) (hB:FcOk wb b) (h:SjD a b s e) (k:SjD b a t f):e=f/\ab s=ab t:=by
 rcases sj_cases hA hB h with ⟨h1,rfl,rfl⟩ | ⟨h1,h2,rfl,rfl⟩ | ⟨h1,h2,rfl,h3⟩ <;> rcases sj_cases hB hA k with ⟨k1,rfl,rfl⟩ | ⟨k1,k2,rfl,rfl⟩ | ⟨k1,k2,rfl,k3⟩
 ·exact ⟨rfl,rfl⟩
 ·exact absurd k1.symm h1
 ·exact absurd k1.symm h1
 ·exact absurd h1.symm k1
 ·exact ⟨rfl,rfl⟩
 ·exact absurd (clash_swap h2) k2
 ·exact absurd h1.symm k1
 ·exact absurd (clash_swap k2) h2
 ·exact ⟨rfl,h3.uniq k3.comm⟩
theorem sj_ok {wa wb:World} {a b s:Fc} {e:Int} (hA:FcOk wa a) (hB:FcOk wb b) (h:SjD a b s e) (fa:FormS a) (fb:FormS b) (hc:NoC (ab a) (ab b)):e=0/\JnA (ab a) (ab b) (ab s):=by
 rcases sj_cases hA hB h with ⟨h1,-⟩ | ⟨-,h2,-⟩ | ⟨-,-,rfl,h3⟩
 ·exact absurd ⟨fa,fb⟩ h1
 ·exact absurd h2 hc
 ·exact ⟨rfl,h3⟩
theorem sj_bad {wa wb:World} {a b s:Fc} {e:Int} (hA:FcOk wa a) (hB:FcOk wb b) (h:SjD a b s e) (hn:¬ (FormS a/\FormS b)):e=1/\s=fz0:=by
 rcases sj_cases hA hB h with ⟨-,h1⟩ | ⟨h2,-⟩ | ⟨h2,-⟩
 ·exact h1
 ·exact absurd h2 hn
 ·exact absurd h2 hn
theorem sj_clash {wa wb:World} {a b s:Fc} {e:Int} (hA:FcOk wa a) (hB:FcOk wb b) (h:SjD a b s e) (fa:FormS a) (fb:FormS b) (hc:K.Clash (a.es++b.es)):e=10/\s=fz0:=by
 rcases sj_cases hA hB h with ⟨h1,-⟩ | ⟨-,-,h2⟩ | ⟨-,h2,-⟩
 ·exact absurd ⟨fa,fb⟩ h1
 ·exact h2
 ·exact absurd hc h2
theorem box3S (w:World) (f g h:Fc):∃ wk,((w.alloc (.cells (FaC (mkF f)) 29)).alloc (.cells (FaC (mkF g)) 29)).alloc (.cells (FaC (mkF h)) 29)=wk/\Hid (SwBox wk w.heap.size (mkF f))/\Hid (SwBox wk (w.heap.size+1) (mkF g))/\Hid (SwBox wk (w.heap.size+2) (mkF h))/\Hid (Below w.heap.size w wk):=by
 obtain ⟨w1,hw1,X1,Y1,B1,z1⟩:=box2J w f g;have b3:=below_new w1 (.cells (FaC (mkF h)) 29);have Z3:=SwBox_new w1 (mkF h);rw [z1] at Z3;rw [hw1];exact ⟨_,rfl,X1.out.below b3,Y1.out.below b3,Z3,B1.out.trans (b3.mono B1.out.size)⟩
attribute [local go_sem ↓] ldSw_eq stSw_eq bldS_eq
attribute [local go_sem] cells_FaV FaC_size zero_FaZ run_bldS0
theorem swotLattice_law (a b c:Fc) (w:World) (hA:FcU w a) (hB:FcU w b) (hC:FcU w c):Calls Tryz.prog 7 #[FaV (mkF a),FaV (mkF b),FaV (mkF c)] w fun e w'=>e = .returned (.bool true)/\Below w.heap.size w w':=by
 obtain ⟨wk,hwk,HXa,HXb,HXc,HBK⟩:=box3S w a b c;obtain ⟨G,hG0⟩:∃ G,w.heap.size=G:=⟨_,rfl⟩;rw [hG0] at HXa HXb HXc;have HOa:=hide (hA.b.below HBK.out);have HOb:=hide (hB.b.below HBK.out);have HOc:=hide (hC.b.below HBK.out);clear hA hB hC;go_enter Tryz.func7,Tryz.ntmps7;go_wp2_with fail;clear hwk hG0;refine (known_any _).mono ?_;rintro e w2 ⟨rfl,b2⟩;have HB2:=hide b2;clear b2;have l0:=run_ldSw (HXa.out.below HB2.out);have l1:=run_ldSw (HXb.out.below HB2.out);go_wp2_with fail;clear l0 l1;refine (swJoin_any 1 1 (by decide) a b _ (HOa.out.below HB2.out) (HOb.out.below HB2.out)).mono ?_;rintro e vp ⟨p,er,rfl,F0,b0,J0⟩;have HJp:=hide J0;obtain ⟨gp,hg0⟩:∃ g,vp.heap.size=g:=⟨_,rfl⟩;obtain ⟨up,hst,X0,B0,-⟩:=madeSx vp p gp hg0;have b01:=b0.trans (B0.mono b0.size);have Cp:=wTr HB2 b01;have HXp:=hide X0;have HOp:=hide (F0.below B0)
 have Tp_p:=hide (Below.refl up.heap.size up);clear F0 X0 B0 b0 b01;have l0:=run_ldSw (HXb.out.below Cp.out);have l1:=run_ldSw (HXa.out.below Cp.out);go_wp2_with fail;clear l0 l1 hst hg0;refine (swJoin_any 1 1 (by decide) b a _ (HOb.out.below Cp.out) (HOa.out.below Cp.out)).mono ?_;rintro e vq ⟨q,er2,rfl,F0,b0,J0⟩;obtain ⟨rfl,HEq⟩:=sj_comm HOa.out.ok HOb.out.ok HJp.out J0;have HEq:=hide HEq;clear J0;obtain ⟨gq,hg0⟩:∃ g,vq.heap.size=g:=⟨_,rfl⟩;obtain ⟨uq,hst,X0,B0,-⟩:=madeSx vq q gq hg0;have b01:=b0.trans (B0.mono b0.size);have Cq:=wTr Cp b01;have Tp_q:=wTr Tp_p b01;have HXq:=hide X0;have HOq:=hide (F0.below B0);have Tq_q:=hide (Below.refl uq.heap.size uq);clear F0 X0 B0 b0 b01;have l0:=run_ldSw (HXp.out.below Tp_q.out);have l1:=run_ldSw (HXq.out.below Tq_q.out);go_wp2_with fail;clear l0 l1 hst hg0;refine (equal11_true p q _ (HOp.out.below Tp_q.out).ok (HOq.out.below Tq_q.out).ok (eqs_ab HEq.out)).mono ?_
 rintro e w3 ⟨rfl,bq⟩;have C3:=wTr Cq bq;have Tp_3:=wTr Tp_q bq;have Tq_3:=wTr Tq_q bq;clear bq;have l0:=run_ldSw (HXa.out.below C3.out);go_wp2_with fail;clear l0;refine (refInForm_any a _ (HOa.out.below C3.out).ok).mono ?_;rintro e w4 ⟨v,rfl,hv,bq⟩;have C4:=wTr C3 bq;have Tp_4:=wTr Tp_3 bq;have Tq_4:=wTr Tq_3 bq;clear bq
 cases v with
 | false =>
  obtain ⟨rfl,-⟩:=sj_bad HOa.out.ok HOb.out.ok HJp.out (fun h=>by have:=hv.2 h.1;cases this);clear hv;have HE:=wTr HBK C4.out;go_wp2_with fail;go_ret;exact ⟨rfl,HE.out⟩
 | true =>
 have HFa:=hide (hv.1 rfl);clear hv;have l0:=run_ldSw (HXb.out.below C4.out);go_wp2_with fail;clear l0;refine (refInForm_any b _ (HOb.out.below C4.out).ok).mono ?_;rintro e w5 ⟨v,rfl,hv,bq⟩;have C5:=wTr C4 bq;have Tp_5:=wTr Tp_4 bq;have Tq_5:=wTr Tq_4 bq;clear bq
 cases v with
 | false =>
  obtain ⟨rfl,-⟩:=sj_bad HOa.out.ok HOb.out.ok HJp.out (fun h=>by have:=hv.2 h.2;cases this);clear hv;have HE:=wTr HBK C5.out;go_wp2_with fail;go_ret;exact ⟨rfl,HE.out⟩
 | true =>
 have HFb:=hide (hv.1 rfl);clear hv;have l0:=run_ldSw (HXa.out.below C5.out);have l1:=run_ldSw (HXb.out.below C5.out);go_wp2_with fail;clear l0 l1;refine (clash_any a b _ (HOa.out.below C5.out).ok (HOb.out.below C5.out).ok (chk_of (HOa.out.below C5.out).ok HFa.out) (chk_of (HOb.out.below C5.out).ok HFb.out)).mono ?_;rintro e w6 ⟨v,rfl,hv,bq⟩;have C6:=wTr C5 bq;have Tp_6:=wTr Tp_5 bq;have Tq_6:=wTr Tq_5 bq;clear bq
 cases v with
 | true =>
  obtain ⟨rfl,-⟩:=sj_clash HOa.out.ok HOb.out.ok HJp.out HFa.out HFb.out (hv.1 rfl);clear hv;have HE:=wTr HBK C6.out;go_wp2_with fail;go_ret;exact ⟨rfl,HE.out⟩
 | false =>
 have HCab:Hid (NoC (ab a) (ab b)):=fun h=>by have:=hv.2 h;cases this
 clear hv;obtain ⟨rfl,jp⟩:=sj_ok HOa.out.ok HOb.out.ok HJp.out HFa.out HFb.out HCab.out;have HJ:=hide jp;clear jp HJp;have HGa:=hide ((fm_iff HOa.out.ok).1 HFa.out);have HGb:=hide ((fm_iff HOb.out.ok).1 HFb.out);have HGp:=hide (HJ.out.form HGa.out HGb.out);have l0:=run_ldSw (HXa.out.below C6.out);have l1:=run_ldSw (HXa.out.below C6.out);go_wp2_with fail;clear l0 l1;refine (swJoin_any 1 1 (by decide) a a _ (HOa.out.below C6.out) (HOa.out.below C6.out)).mono ?_;rintro e vm ⟨m,er,rfl,F0,b0,J0⟩;obtain ⟨rfl,jm⟩:=sj_ok HOa.out.ok HOa.out.ok J0 HFa.out HFa.out (noC_self HGa.out);have HEm:Hid (ab m=ab a):=jm.uniq (le_refl HGa.out);clear J0 jm;obtain ⟨gm,hg0⟩:∃ g,vm.heap.size=g:=⟨_,rfl⟩;obtain ⟨um,hst,X0,B0,-⟩:=madeSx vm m gm hg0;have b01:=b0.trans (B0.mono b0.size);have Cm:=wTr C6 b01;have Tp_m:=wTr Tp_6 b01;have Tq_m:=wTr Tq_6 b01
 have HXm:=hide X0;have HOm:=hide (F0.below B0);have Tm_m:=hide (Below.refl um.heap.size um);clear F0 X0 B0 b0 b01;have l0:=run_ldSw (HXa.out.below Cm.out);go_wp2_with fail;clear l0 hst hg0;refine (swJoin_any 1 1 (by decide) a fz0 _ (HOa.out.below Cm.out) (fz0_b 1 _)).mono ?_;rintro e vz ⟨z,er,rfl,F0,b0,J0⟩;obtain ⟨rfl,jz⟩:=sj_ok HOa.out.ok (fz0_ok wk) J0 HFa.out fz_form (noC_0 HGa.out);have HEz:Hid (ab z=ab a):=jz.uniq (join_zero HGa.out);clear J0 jz;obtain ⟨gz,hg0⟩:∃ g,vz.heap.size=g:=⟨_,rfl⟩;obtain ⟨uz,hst,X0,B0,-⟩:=madeSx vz z gz hg0;have b01:=b0.trans (B0.mono b0.size);have Cz:=wTr Cm b01;have Tp_z:=wTr Tp_m b01;have Tq_z:=wTr Tq_m b01;have Tm_z:=wTr Tm_m b01;have HXz:=hide X0;have HOz:=hide (F0.below B0);have Tz_z:=hide (Below.refl uz.heap.size uz);clear F0 X0 B0 b0 b01;have l0:=run_ldSw (HXm.out.below Tm_z.out)
 have l1:=run_ldSw (HXa.out.below Cz.out);go_wp2_with fail;clear l0 l1 hst hg0;refine (equal11_true m a _ (HOm.out.below Tm_z.out).ok (HOa.out.below Cz.out).ok (eqs_ab HEm.out)).mono ?_;rintro e w7 ⟨rfl,bq⟩;have C7:=wTr Cz bq;have Tp_7:=wTr Tp_z bq;have Tq_7:=wTr Tq_z bq;have Tm_7:=wTr Tm_z bq;have Tz_7:=wTr Tz_z bq;clear bq;have l0:=run_ldSw (HXz.out.below Tz_7.out);have l1:=run_ldSw (HXa.out.below C7.out);go_wp2_with fail;clear l0 l1;refine (equal11_true z a _ (HOz.out.below Tz_7.out).ok (HOa.out.below C7.out).ok (eqs_ab HEz.out)).mono ?_;rintro e w8 ⟨rfl,bq⟩;have C8:=wTr C7 bq;have Tp_8:=wTr Tp_7 bq;have Tq_8:=wTr Tq_7 bq;have Tm_8:=wTr Tm_7 bq;have Tz_8:=wTr Tz_7 bq;clear bq;have l0:=run_ldSw (HXp.out.below Tp_8.out);go_wp2_with fail;clear l0;refine (refInForm_any p _ (HOp.out.below Tp_8.out).ok).mono ?_;rintro e w9 ⟨v,rfl,hv,bq⟩
 have C9:=wTr C8 bq;have Tp_9:=wTr Tp_8 bq;have Tq_9:=wTr Tq_8 bq;have Tm_9:=wTr Tm_8 bq;have Tz_9:=wTr Tz_8 bq;obtain rfl:v=true:=hv.2 ((fm_iff (HOp.out.below Tp_8.out).ok).2 HGp.out);clear hv;clear bq;have l0:=run_ldSw (HXc.out.below C9.out);go_wp2_with fail;clear l0;refine (refInForm_any c _ (HOc.out.below C9.out).ok).mono ?_;rintro e w10 ⟨v,rfl,hv,bq⟩;have C10:=wTr C9 bq;have Tp_10:=wTr Tp_9 bq;have Tq_10:=wTr Tq_9 bq;have Tm_10:=wTr Tm_9 bq;have Tz_10:=wTr Tz_9 bq;clear bq
 cases v with
 | false =>
  clear hv;have HE:=wTr HBK C10.out;go_wp2_with fail;go_ret;exact ⟨rfl,HE.out⟩
 | true =>
 have HFc:=hide (hv.1 rfl);clear hv;have l0:=run_ldSw (HXa.out.below C10.out);have l1:=run_ldSw (HXc.out.below C10.out);go_wp2_with fail;clear l0 l1;refine (clash_any a c _ (HOa.out.below C10.out).ok (HOc.out.below C10.out).ok (chk_of (HOa.out.below C10.out).ok HFa.out) (chk_of (HOc.out.below C10.out).ok HFc.out)).mono ?_;rintro e w11 ⟨v,rfl,hv,bq⟩;have C11:=wTr C10 bq;have Tp_11:=wTr Tp_10 bq;have Tq_11:=wTr Tq_10 bq;have Tm_11:=wTr Tm_10 bq;have Tz_11:=wTr Tz_10 bq;clear bq
 cases v with
 | true =>
  clear hv;have HE:=wTr HBK C11.out;go_wp2_with fail;go_ret;exact ⟨rfl,HE.out⟩
 | false =>
 have HCac:Hid (NoC (ab a) (ab c)):=fun h=>by have:=hv.2 h;cases this
 clear hv;have l0:=run_ldSw (HXb.out.below C11.out);have l1:=run_ldSw (HXc.out.below C11.out);go_wp2_with fail;clear l0 l1;refine (clash_any b c _ (HOb.out.below C11.out).ok (HOc.out.below C11.out).ok (chk_of (HOb.out.below C11.out).ok HFb.out) (chk_of (HOc.out.below C11.out).ok HFc.out)).mono ?_;rintro e w12 ⟨v,rfl,hv,bq⟩;have C12:=wTr C11 bq;have Tp_12:=wTr Tp_11 bq;have Tq_12:=wTr Tq_11 bq;have Tm_12:=wTr Tm_11 bq;have Tz_12:=wTr Tz_11 bq;clear bq
 cases v with
 | true =>
  clear hv;have HE:=wTr HBK C12.out;go_wp2_with fail;go_ret;exact ⟨rfl,HE.out⟩
 | false =>
 have HCbc:Hid (NoC (ab b) (ab c)):=fun h=>by have:=hv.2 h;cases this
 clear hv;have HGc:=hide ((fm_iff HOc.out.ok).1 HFc.out);have HCpc:Hid (NoC (ab p) (ab c)):=HJ.out.noC HGc.out HCac.out HCbc.out;have HFp:=hide ((fm_iff HOp.out.ok).2 HGp.out);have l0:=run_ldSw (HXb.out.below C12.out);have l1:=run_ldSw (HXc.out.below C12.out);go_wp2_with fail;clear l0 l1;refine (swJoin_any 1 1 (by decide) b c _ (HOb.out.below C12.out) (HOc.out.below C12.out)).mono ?_;rintro e vu ⟨u,er,rfl,F0,b0,J0⟩;obtain ⟨rfl,j⟩:=sj_ok HOb.out.ok HOc.out.ok J0 HFb.out HFc.out HCbc.out;have HJu:=hide j;have HGu:=hide (j.form HGb.out HGc.out);have HCau:Hid (NoC (ab a) (ab u)):=(j.noC HGa.out HCab.out.comm HCac.out.comm).comm;have HFu:=hide ((fm_iff F0.ok).2 HGu.out);clear J0 j;obtain ⟨gu,hg0⟩:∃ g,vu.heap.size=g:=⟨_,rfl⟩;obtain ⟨uu,hst,X0,B0,-⟩:=madeSx vu u gu hg0;have b01:=b0.trans (B0.mono b0.size);have Cu:=wTr C12 b01;have Tp_u:=wTr Tp_12 b01
 have Tq_u:=wTr Tq_12 b01;have Tm_u:=wTr Tm_12 b01;have Tz_u:=wTr Tz_12 b01;have HXu:=hide X0;have HOu:=hide (F0.below B0);have Tu_u:=hide (Below.refl uu.heap.size uu);clear F0 X0 B0 b0 b01;have l0:=run_ldSw (HXp.out.below Tp_u.out);have l1:=run_ldSw (HXc.out.below Cu.out);go_wp2_with fail;clear l0 l1 hst hg0;refine (swJoin_any 2 1 (by decide) p c _ (HOp.out.below Tp_u.out) (HOc.out.below Cu.out)).mono ?_;rintro e vl ⟨l,er,rfl,F0,b0,J0⟩;obtain ⟨rfl,j⟩:=sj_ok HOp.out.ok HOc.out.ok J0 HFp.out HFc.out HCpc.out;have HJl:=hide j;have HGl:=hide (j.form HGp.out HGc.out);have HFl:=hide ((fm_iff F0.ok).2 HGl.out);have HClb:Hid (NoC (ab l) (ab b)):=j.noC HGb.out (HJ.out.noC HGb.out HCab.out (noC_self HGb.out)) HCbc.out.comm;clear J0 j;obtain ⟨gl,hg0⟩:∃ g,vl.heap.size=g:=⟨_,rfl⟩;obtain ⟨ul,hst,X0,B0,-⟩:=madeSx vl l gl hg0;have b01:=b0.trans (B0.mono b0.size)
 have Cl:=wTr Cu b01;have Tp_l:=wTr Tp_u b01;have Tq_l:=wTr Tq_u b01;have Tm_l:=wTr Tm_u b01;have Tz_l:=wTr Tz_u b01;have Tu_l:=wTr Tu_u b01;have HXl:=hide X0;have HOl:=hide (F0.below B0);have Tl_l:=hide (Below.refl ul.heap.size ul);clear F0 X0 B0 b0 b01;have l0:=run_ldSw (HXa.out.below Cl.out);have l1:=run_ldSw (HXu.out.below Tu_l.out);go_wp2_with fail;clear l0 l1 hst hg0;refine (swJoin_any 1 2 (by decide) a u _ (HOa.out.below Cl.out) (HOu.out.below Tu_l.out)).mono ?_;rintro e vr ⟨r,er,rfl,F0,b0,J0⟩;obtain ⟨rfl,j⟩:=sj_ok HOa.out.ok HOu.out.ok J0 HFa.out HFu.out HCau.out;have HElr:Hid (ab l=ab r):=join_assoc HGa.out HGb.out HGc.out HCab.out HCbc.out HCac.out HJ.out HJu.out HJl.out j;clear J0 j;obtain ⟨gr,hg0⟩:∃ g,vr.heap.size=g:=⟨_,rfl⟩;obtain ⟨ur,hst,X0,B0,-⟩:=madeSx vr r gr hg0;have b01:=b0.trans (B0.mono b0.size)
 have Cr:=wTr Cl b01;have Tp_r:=wTr Tp_l b01;have Tq_r:=wTr Tq_l b01;have Tm_r:=wTr Tm_l b01;have Tz_r:=wTr Tz_l b01;have Tu_r:=wTr Tu_l b01;have Tl_r:=wTr Tl_l b01;have HXr:=hide X0;have HOr:=hide (F0.below B0);have Tr_r:=hide (Below.refl ur.heap.size ur);clear F0 X0 B0 b0 b01;have l0:=run_ldSw (HXl.out.below Tl_r.out);have l1:=run_ldSw (HXr.out.below Tr_r.out);go_wp2_with fail;clear l0 l1 hst hg0;refine (equal11_true l r _ (HOl.out.below Tl_r.out).ok (HOr.out.below Tr_r.out).ok (eqs_ab HElr.out)).mono ?_;rintro e w13 ⟨rfl,bq⟩;have C13:=wTr Cr bq;have Tp_13:=wTr Tp_r bq;have Tq_13:=wTr Tq_r bq;have Tm_13:=wTr Tm_r bq;have Tz_13:=wTr Tz_r bq;have Tu_13:=wTr Tu_r bq;have Tl_13:=wTr Tl_r bq;have Tr_13:=wTr Tr_r bq;clear bq;have l0:=run_ldSw (HXl.out.below Tl_13.out);have l1:=run_ldSw (HXb.out.below C13.out);go_wp2_with fail
 clear l0 l1;refine (swJoin_any 3 1 (by decide) l b _ (HOl.out.below Tl_13.out) (HOb.out.below C13.out)).mono ?_;rintro e vt ⟨t,er,rfl,F0,b0,J0⟩;obtain ⟨rfl,j⟩:=sj_ok HOl.out.ok HOb.out.ok J0 HFl.out HFb.out HClb.out;have HEt:Hid (ab t=ab l):=join_again HGa.out HGb.out HGc.out HCab.out HCbc.out HCac.out HJ.out HJl.out j;clear J0 j;obtain ⟨gt,hg0⟩:∃ g,vt.heap.size=g:=⟨_,rfl⟩;obtain ⟨ut,hst,X0,B0,-⟩:=madeSx vt t gt hg0;have b01:=b0.trans (B0.mono b0.size);have Ct:=wTr C13 b01;have Tp_t:=wTr Tp_13 b01;have Tq_t:=wTr Tq_13 b01;have Tm_t:=wTr Tm_13 b01;have Tz_t:=wTr Tz_13 b01;have Tu_t:=wTr Tu_13 b01;have Tl_t:=wTr Tl_13 b01;have Tr_t:=wTr Tr_13 b01;have HXt:=hide X0;have HOt:=hide (F0.below B0);have Tt_t:=hide (Below.refl ut.heap.size ut);clear F0 X0 B0 b0 b01;have l0:=run_ldSw (HXt.out.below Tt_t.out);have l1:=run_ldSw (HXl.out.below Tl_t.out)
 go_wp2_with fail;clear l0 l1 hst hg0;refine (equal11_true t l _ (HOt.out.below Tt_t.out).ok (HOl.out.below Tl_t.out).ok (eqs_ab HEt.out)).mono ?_;rintro e w14 ⟨rfl,bq⟩;have C14:=wTr Ct bq;have Tp_14:=wTr Tp_t bq;have Tq_14:=wTr Tq_t bq;have Tm_14:=wTr Tm_t bq;have Tz_14:=wTr Tz_t bq;have Tu_14:=wTr Tu_t bq;have Tl_14:=wTr Tl_t bq;have Tr_14:=wTr Tr_t bq;have Tt_14:=wTr Tt_t bq;clear bq;have HE:=wTr HBK C14.out;go_wp2_with fail;go_ret;exact ⟨rfl,HE.out⟩
theorem swotLattice_u (a b c:Fc) (w:World) (hA:FcU w a) (hB:FcU w b) (hC:FcU w c) :
  Calls Tryz.prog 7 #[FaV (mkF a),FaV (mkF b),FaV (mkF c)] w fun e w'=>e = .returned (.bool true)/\Below w.heap.size w w':=swotLattice_law a b c w hA hB hC
end
end Go.Proofs.YtaphmhbmhcahaaaGreat
