/- SXq SZa SZb TJn LOnr LRu TRj SXx SZc -/
import Derived.Test.YtjeilkenjdnafaaGreatTk
import Derived.Test.YtjeilkenjdnafaaGreatDk27
import Derived.Test.YtjeilkenjdnafaaGreatDk10
import Derived.Test.YtjeilkenjdnafaaGreatDk20
import Derived.BigFrame
import Derived.Test.YtjeilkenjdnafaaGreatDk38
import Derived.Test.YtjeilkenjdnafaaGreatDk36
import Derived.Test.YtjeilkenjdnafaaGreatDk25
import Derived.Deep.CutRange
import Derived.Test.YtjeilkenjdnafaaGreatDk26
import Derived.Test.YtjeilkenjdnafaaGreatDk09
import Derived.Test.YtjeilkenjdnafaaGreatDk30
import Derived.Test.YtjeilkenjdnafaaGreatDk37
set_option maxRecDepth 100000
set_option maxHeartbeats 6400000
namespace Go.Proofs.YtjeilkenjdnafaaGreat
section
open Go.RowKit
theorem plR_get {L M:List Rc} (h:plR L=plR M) (k:Nat):(L.getD k rc0).s=(M.getD k rc0).s/\(L.getD k rc0).p.P=(M.getD k rc0).p.P:=by
 have e:∀ X:List Rc,((X.getD k rc0).s,(X.getD k rc0).p.P)=(plR X).getD k (rc0.s,rc0.p.P):=fun X=>by
  unfold plR;rw [List.getD_eq_getElem?_getD,List.getD_eq_getElem?_getD,List.getElem?_map]
  cases X[k]? <;> rfl
 have h1:=(e L).trans ((congrArg (fun X=>X.getD k (rc0.s,rc0.p.P)) h).trans (e M).symm);exact ⟨congrArg Prod.fst h1,congrArg Prod.snd h1⟩
theorem box2S (w:World) (f g:Fc):∃ wk,(w.alloc (.cells (FaC (mkF f)) 31)).alloc (.cells (FaC (mkF g)) 31)=wk/\Hid (SwBox wk w.heap.size (mkF f))/\Hid (SwBox wk (w.heap.size+1) (mkF g))/\Hid (Below w.heap.size w wk):=by
 have b1:=below_new w (.cells (FaC (mkF f)) 31);have b2:=below_new (w.alloc (.cells (FaC (mkF f)) 31)) (.cells (FaC (mkF g)) 31);have X2:=SwBox_new (w.alloc (.cells (FaC (mkF f)) 31)) (mkF g);rw [World.size_alloc] at X2;exact ⟨_,rfl,(SwBox_new w (mkF f)).below b2,X2,b1.trans (b2.mono b1.size)⟩
def EqS (f g:Fc):Prop:=f.es=g.es/\f.p.P=g.p.P/\plR f.rs=plR g.rs
attribute [local go_sem ↓] ldP_eq stP_eq ldSw_eq stSw_eq K.ld28_eq K.st28_eq K.run_eq28
attribute [local go_sem] cells_PV PC_size cells_FaV FaC_size K.eqE_self K.zero_EC K.cells_EV
theorem equal11_true (a b:Fc) (w:World) (hF:FcOk w a) (hG:FcOk w b) (hE:EqS a b):Calls Tryz.prog 22 #[FaV (mkF a),FaV (mkF b)] w fun e w'=>e = .returned (.bool true)/\Below w.heap.size w w':=by
 obtain ⟨wk,hwk,HX,HY,HBK⟩:=box2S w a b;obtain ⟨G,hG0⟩:∃ G,w.heap.size=G:=⟨_,rfl⟩;rw [hG0] at HX HY;have HS:=hide (hF.below HBK.out);have HR:=hide (hG.below HBK.out);have HE:=hide hE
 have hna:b.an=a.an:=by rw [<- HS.out.es.1,<- HR.out.es.1,hE.1]
 have hnr:b.rn=a.rn:=by
  have h1:=congrArg List.length hE.2.2;rw [plR_len,plR_len,HS.out.rs.len,HR.out.rs.len] at h1;exact h1.symm
 obtain ⟨n,hn⟩:∃ n,a.an=n:=⟨_,rfl⟩;obtain ⟨m,hm⟩:∃ n,a.rn=n:=⟨_,rfl⟩;rw [hn] at hna;rw [hm] at hnr;clear hF hG hE
 have HC:Hid (∀ W,Below wk.heap.size wk W -> (W.cell? ⟨G,0,none⟩=some (.slice a.ao n a.ac)/\W.cell? ⟨G,3,none⟩=some (.slice a.ro m a.rc))/\W.cell? ⟨G+1,0,none⟩=some (.slice b.ao n b.ac)/\W.cell? ⟨G+1,3,none⟩=some (.slice b.ro m b.rc)):=fun W h=>by
  have h1:=(HX.out.below h).cs;have h2:=(HY.out.below h).cs;rw [hn,hm] at h1;rw [hna,hnr] at h2;exact ⟨h1,h2⟩
 have HSe:Hid (K.ESrc wk a.ao n a.ac a.es/\K.ESrc wk b.ao n b.ac a.es):=⟨by rw [<- hn];exact HS.out.es,by rw [HE.out.1,<- hna];exact HR.out.es⟩;have HSr:Hid (RcS wk a.ro m a.rc a.rs/\RcS wk b.ro m b.rc b.rs):=⟨by rw [<- hm];exact HS.out.rs,by rw [<- hnr];exact HR.out.rs⟩;have hbn:=HSe.out.1.2.2.2.2;have hbm:=HSr.out.1.big;clear hn hm hna hnr;obtain ⟨⟨c0,c3⟩,d0,d3⟩:=HC.out _ (Below.refl _ _);have lp:=run_ldP HX.out.past;have lq:=run_ldP HY.out.past;go_enter Tryz.func22,Tryz.ntmps22;go_wp2_with fail;clear hwk hG0 lp lq c0 c3 d0 d3;refine (samePast_any a.p b.p _ HS.out.p HR.out.p).mono ?_;rintro e w2 ⟨v,rfl,hv,b2⟩;obtain rfl:v=true:=hv.2 HE.out.2.1;have HB2:=hide b2;obtain ⟨⟨c0,c3⟩,d0,d3⟩:=HC.out _ b2;clear hv b2;go_wp2_with fail;clear c0 c3 d0 d3;go_loopw [5] (fun i wr=>∃ k:Nat,k <= n/\i = .int .i64 (k:Int)/\Hid (Below wk.heap.size wk wr)) (fun i _=>n - (intOf i).toNat)
 case atStart=>exact ⟨0,Nat.zero_le _,rfl,HB2.out⟩
 case round =>
  obtain ⟨k,hk,rfl,HK⟩:=hrel
  rename World=>wr
  obtain ⟨⟨c0,c3⟩,d0,d3⟩:=HC.out _ HK.out;by_cases hlt:k < n
  ·have hlti:(k:Int) < (n:Int):=by omega
   obtain ⟨ad,hao,-⟩:=HSe.out.1.at k hlt;obtain ⟨bd,hbo,-⟩:=HSe.out.2.at k hlt;obtain ⟨e,He⟩:∃ e,Hid (a.es.getD k K.en0=e):=⟨_,rfl⟩;have Hlt:=hide hlt
   have HSt:Hid (∀ W,Below wk.heap.size wk W -> (W.cell? ⟨G,0,none⟩=some (.slice (some ad) n a.ac)/\W.cell? ⟨G+1,0,none⟩=some (.slice (some bd) n b.ac))/\(K.ld28 (.pointer (some (ad.add (k * 4))))).run Tryz.prog W = .ok (K.EV e) W/\(K.ld28 (.pointer (some (bd.add (k * 4))))).run Tryz.prog W = .ok (K.EV e) W):=fun W hW=>by
    have hc:=HC.out W hW;rw [hao,hbo] at hc;obtain ⟨ad',ea,A⟩:=(HSe.out.1.below hW).at k Hlt.out;obtain ⟨bd',eb,B⟩:=(HSe.out.2.below hW).at k Hlt.out;rw [hao] at ea;rw [hbo] at eb;obtain rfl:=Option.some.inj ea;obtain rfl:=Option.some.inj eb;rw [He.out] at A B;exact ⟨⟨hc.1.1,hc.2.1⟩,K.run_ld28 A,K.run_ld28 B⟩
   clear hlt hk;rw [hao] at c0;rw [hbo] at d0;clear hao hbo;go_upto_region 6 with fail;refine wp_region_held_drew (S:=fun W=>(W.cell? ⟨G,0,none⟩=some (.slice (some ad) n a.ac)/\W.cell? ⟨G+1,0,none⟩=some (.slice (some bd) n b.ac))/\(K.ld28 (.pointer (some (ad.add (k * 4))))).run Tryz.prog W = .ok (K.EV e) W/\(K.ld28 (.pointer (some (bd.add (k * 4))))).run Tryz.prog W = .ok (K.EV e) W) (by kernel_rfl) (HSt.out _ (HK.out.trans ((below_drew1 wr).mono HK.out.size))) (fun hHeld=>?_);refine wU 0 ?_;refine wU 1 ?_;refine wU 2 ?_;refine wU 3 ?_;refine wU 4 ?_;refine wU 5 ?_;refine wU 6 ?_;refine wU 7 ?_;refine wU 8 ?_;refine wU 9 ?_;refine wU 10 ?_;refine wpAnyH_done (by kernel_rfl) ?_ _;clear hHeld;clear c0 c3 d0 d3;go_wp2_with fail;go_roundw
   case rel=>exact ⟨k+1,Hlt.out,by have:=Hlt.out;simp,HK.out.trans ((below_drew1 wr).mono HK.out.size)⟩
   case measure=>simp [intOf];have:=Hlt.out;omega
  ·have hlti:¬ (k:Int) < (n:Int):=by omega
   clear hlt hk;go_wp2_with fail;clear c0 c3 d0 d3;go_loopw [6] (fun i wr=>∃ k:Nat,k <= m/\i = .int .i64 (k:Int)/\Hid (Below wk.heap.size wk wr)) (fun i _=>m - (intOf i).toNat)
   case atStart=>exact ⟨0,Nat.zero_le _,rfl,HK.out⟩
   case round =>
    clear HK hlti;obtain ⟨k,hk,rfl,HK⟩:=hrel
    rename World=>wr
    obtain ⟨⟨c0,c3⟩,d0,d3⟩:=HC.out _ HK.out;by_cases hlt:k < m
    ·have hlti:(k:Int) < (m:Int):=by omega
     obtain ⟨ad,hao,-⟩:=HSr.out.1.at k hlt;obtain ⟨bd,hbo,-⟩:=HSr.out.2.at k hlt
     obtain ⟨b1,o1,rfl⟩:∃ b1 o1,ad=⟨b1,o1,none⟩:=by
      have h:=HSr.out.1;rw [hao] at h;exact h.spot (by omega)
     obtain ⟨b2,o2,rfl⟩:∃ b2 o2,bd=⟨b2,o2,none⟩:=by
      have h:=HSr.out.2;rw [hbo] at h;exact h.spot (by omega)
     obtain ⟨x,Hx⟩:∃ x,Hid (a.rs.getD k rc0=x):=⟨_,rfl⟩;obtain ⟨y,Hy⟩:∃ y,Hid (b.rs.getD k rc0=y):=⟨_,rfl⟩
     have HXY:Hid (x.s=y.s/\x.p.P=y.p.P):=by
      have h:=plR_get HE.out.2.2 k;rw [Hx.out,Hy.out] at h;exact h
     have hsb:(x.s.toList == y.s.toList)=true:=by rw [HXY.out.1];simp
     have Hlt:=hide hlt
     have HSo:Hid (∀ W,Below wk.heap.size wk W -> PSrc W x.p/\PSrc W y.p):=fun W hW=>by
      have h1:=(HSr.out.1.below hW).okAt k Hlt.out;have h2:=(HSr.out.2.below hW).okAt k Hlt.out;rw [Hx.out] at h1;rw [Hy.out] at h2;exact ⟨h1.1,h2.1⟩
     have HSt:Hid (∀ W,Below wk.heap.size wk W -> (W.cell? ⟨G,3,none⟩=some (.slice (some ⟨b1,o1,none⟩) m a.rc)/\W.cell? ⟨G+1,3,none⟩=some (.slice (some ⟨b2,o2,none⟩) m b.rc))/\(W.cell? ⟨b1,o1+k * 3,none⟩=some (.string x.s)/\W.cell? ⟨b2,o2+k * 3,none⟩=some (.string y.s))/\(ldP (.pointer (some ⟨b1,o1+k * 3+1,none⟩))).run Tryz.prog W = .ok (PV x.p) W/\(ldP (.pointer (some ⟨b2,o2+k * 3+1,none⟩))).run Tryz.prog W = .ok (PV y.p) W):=fun W hW=>by
      have hc:=HC.out W hW;rw [hao,hbo] at hc;have A:=(HSr.out.1.below hW).at_ _ hao k Hlt.out;have B:=(HSr.out.2.below hW).at_ _ hbo k Hlt.out;rw [Hx.out,Addr.add_lit] at A;rw [Hy.out,Addr.add_lit] at B;exact ⟨⟨hc.1.2,hc.2.2⟩,⟨A.flat.1,B.flat.1⟩,run_ldP A.flat.2,run_ldP B.flat.2⟩
     have HBd:=hide (HK.out.trans ((below_drew1 wr).mono HK.out.size));clear hlt hk;rw [hao] at c3;rw [hbo] at d3;clear hao hbo;go_upto_region 11 with fail;refine wp_region_held_drew (S:=fun W=>(W.cell? ⟨G,3,none⟩=some (.slice (some ⟨b1,o1,none⟩) m a.rc)/\W.cell? ⟨G+1,3,none⟩=some (.slice (some ⟨b2,o2,none⟩) m b.rc))/\(W.cell? ⟨b1,o1+k * 3,none⟩=some (.string x.s)/\W.cell? ⟨b2,o2+k * 3,none⟩=some (.string y.s))/\(ldP (.pointer (some ⟨b1,o1+k * 3+1,none⟩))).run Tryz.prog W = .ok (PV x.p) W/\(ldP (.pointer (some ⟨b2,o2+k * 3+1,none⟩))).run Tryz.prog W = .ok (PV y.p) W) (by kernel_rfl) (HSt.out _ HBd.out) (fun hHeld=>?_);refine wU 0 ?_;refine wU 1 ?_;refine wU 2 ?_;refine wU 3 ?_;refine wU 4 ?_;refine wU 5 ?_;refine wU 6 ?_;refine wU 7 ?_;refine wU 8 ?_;refine wU 9 ?_;refine wU 10 ?_;refine wU 11 ?_;refine wU 12 ?_;refine wU 13 ?_
     refine wU 14 ?_;refine wU 15 ?_;refine wU 16 ?_;refine wU 17 ?_;refine wU 18 ?_;refine wU 19 ?_;refine wU 20 ?_;refine wU 21 ?_;refine wU 22 ?_;refine wU 23 ?_;refine wU 24 ?_;refine wU 25 ?_;refine wpAnyH_ready (rs:=[26]) (by kernel_rfl) (by simp) (.cons rfl (fun K hK=>?_) .nil);go_simp;go_wp2_with fail;refine (samePast_any x.p y.p _ (HSo.out _ HBd.out).1 (HSo.out _ HBd.out).2).mono ?_;rintro z w7 ⟨v,rfl,hv,b7⟩;obtain rfl:v=true:=hv.2 HXY.out.2;have HB7:=wTr HBd b7;clear hv b7;refine hK.out _ _ (HSt.out _ HB7.out) (fun hHeld=>?_);clear hK K;refine wU 27 ?_;refine wU 28 ?_;refine wpAnyH_done (by kernel_rfl) ?_ _;clear hHeld;clear c0 c3 d0 d3 hsb;go_wp2_with fail;go_roundw
     case rel=>exact ⟨k+1,Hlt.out,by have:=Hlt.out;simp,HB7.out⟩
     case measure=>simp [intOf];have:=Hlt.out;omega
    ·have hlti:¬ (k:Int) < (m:Int):=by omega
     have HEnd:=wTr HBK HK.out;clear hlt hk;go_wp2_with fail;clear c0 c3 d0 d3;go_ret;exact ⟨rfl,HEnd.out⟩
end
section
open Go.RowKit
def EnU (A B R:List K.En) (ok:Bool):Prop:=(ok=false/\K.Clash (A++B))∨(ok=true/\¬ K.Clash (A++B)/\K.Asc R/\∀ e,e∈R↔e∈A∨e∈B)
def EnG (w w':World) (x:Ending) (A B:List K.En):Prop:=∃ o q k R ok,x = .returned (.tuple #[.slice o q k,.bool ok])/\K.ESrc w' o q k R/\Below w.heap.size w w'/\EnU A B R ok
theorem enDrop {L:List K.En} {i:Nat} (h:i < L.length):L.drop i=L.getD i K.en0 :: L.drop (i+1):=by
 rw [List.drop_eq_getElem_cons h,List.getD_eq_getElem?_getD,List.getElem?_eq_getElem h];rfl
structure EnM (A B:List K.En) (i j:Nat) (D:List K.En):Prop where
 p:K.Asc (D++A.drop i)
 q:K.Asc (D++B.drop j)
 m:∀ e,(e∈D∨e∈A.drop i∨e∈B.drop j)↔e∈A∨e∈B
 l:D.length <= i+j
theorem EnM.symm {A B D:List K.En} {i j:Nat} (h:EnM A B i j D):EnM B A j i D:=
 ⟨h.q,h.p,fun e=>by have:=h.m e;constructor <;> intro k <;> (have t1:=this.1;have t2:=this.2;grind),by have:=h.l;omega⟩
theorem EnM.left {A B D:List K.En} {i j:Nat} (h:EnM A B i j D) (hi:i < A.length) (hx:∀ y∈B.drop j,K.ahead (A.getD i K.en0) y=true):EnM A B (i+1) j (D++[A.getD i K.en0]):=by
 have e:=enDrop hi;have hp:=h.p;have hq:=h.q;have hm:=h.m;rw [e] at hp hm;unfold K.Asc at hp hq;rw [List.pairwise_append] at hp hq;refine ⟨?_,?_,fun z=>?_,by have:=h.l;rw [List.length_append];simp;omega⟩
 ·unfold K.Asc;rw [List.append_assoc,List.singleton_append,List.pairwise_append];exact hp
 ·unfold K.Asc;rw [List.append_assoc,List.singleton_append,List.pairwise_append];refine ⟨hq.1,List.pairwise_cons.2 ⟨hx,hq.2.1⟩,fun a ha b hb=>?_⟩;rcases List.mem_cons.1 hb with rfl | hb
  ·exact hp.2.2 a ha _ List.mem_cons_self
  ·exact hq.2.2 a ha b hb
 ·rw [<- hm z,List.mem_append,List.mem_singleton,List.mem_cons];constructor
  ·rintro ((k | k) | k | k)
   ·exact .inl k
   ·exact .inr (.inl (.inl k))
   ·exact .inr (.inl (.inr k))
   ·exact .inr (.inr k)
  ·rintro (k | (k | k) | k)
   ·exact .inl (.inl k)
   ·exact .inl (.inr k)
   ·exact .inr (.inl k)
   ·exact .inr (.inr k)
theorem EnM.none {B:List K.En} {j:Nat} {x:K.En} (hj:j=B.length):∀ y∈B.drop j,K.ahead x y=true:=fun y hy=>by
 rw [hj,List.drop_length] at hy;cases hy
attribute [local go_sem ↓] ldD_eq stD_eq K.ld28_eq K.st28_eq
attribute [local go_sem] cells_RV RC_size zero_RC fold_RC K.zero_EC K.cells_EV K.EC_size K.fold_EC
end
section
open Go.RowKit
section
attribute [local go_sem ↓] ldP_eq stP_eq ldRe_eq stRe_eq
attribute [local go_sem] cells_ReV ReC_size zero_ReC
end
def RcG (w w':World) (x:Ending) (A B:List Rc):Prop:=∃ (h:Hs) (F:List Rc),x = .returned (HsV h)/\RcS w' h.o h.n h.c F/\Below w.heap.size w w'/\UnOf A B F/\h.n <= A.length+B.length
attribute [local go_sem ↓] ldP_eq stP_eq ldRe_eq stRe_eq
attribute [local go_sem] cells_ReV ReC_size zero_ReC
end
section
open Go.RowKit
attribute [local go_sem ↓] ldP_eq stP_eq ldFa_eq stFa_eq bldF_eq bsPs_eq
attribute [local go_sem] cells_PV PC_size cells_FaV FaC_size zero_FaZ run_bldF0 run_bldF12 run_bsPs
end
end Go.Proofs.YtjeilkenjdnafaaGreat
namespace Go.Proofs.YtjeilkenjdnafaaGreat.K
section
open Go.RowKit
attribute [local go_sem ↓] ld28_eq st28_eq ld26_eq
attribute [local go_sem] zero_EC cells_EV EC_size fold_EC
attribute [local go_sem ↓] run_eq28 run_eqD
end
section
open Go.RowKit Go.Lib
attribute [local go_sem ↓] ld28_eq st28_eq
attribute [local go_sem] zero_EC cells_EV EC_size fold_EC
end
end Go.Proofs.YtjeilkenjdnafaaGreat.K
namespace Go.Proofs.YtjeilkenjdnafaaGreat
section
open Go.RowKit
theorem FaBox.ne {W:World} {g:Nat} {m:FacV} (A:FaBox W g m) {a:Addr} {v:Value} (hc:W.cell? a=some v) (hv:∀ o n c,v ≠ .slice o n c):a.block≠g:=by
 rintro rfl;obtain ⟨b,o,k⟩:=a;unfold FaBox at A;have h:=World.cell?_spot hc;obtain rfl:k=none:=h;simp only [World.cell?,A] at hc;rcases o with _ | _ | _ | _ | o <;> simp [FaC] at hc
 all_goals exact absurd hc.symm (hv _ _ _)
theorem cell_off {W:World} {g:Nat} {a:Addr} (c:Array Value) (h:a.block≠g):(W.setRow g c).cell? a=W.cell? a:=by
 unfold World.cell?;rw [setRow_other _ _ _ _ h]
theorem esrc_offF {W:World} {g:Nat} {m:FacV} {ao:Option Addr} {n cap:Nat} {L:List K.En} (A:FaBox W g m) (h:K.ESrc W ao n cap L) (c:Array Value):K.ESrc (W.setRow g c) ao n cap L:=by
 refine ⟨h.1,h.2.1,fun ad e t ht=>?_,h.2.2.2⟩;have B:=h.2.2.1 ad e t ht;have hb:(ad.add (t * 4)).block≠g:=A.ne B.c0 (fun _ _ _ h=>by cases h);exact ⟨by rw [cell_off c hb];exact B.c0,by rw [cell_off c (by rw [block_add];exact hb)];exact B.c1,by rw [cell_off c (by rw [block_add];exact hb)];exact B.c2,by rw [cell_off c (by rw [block_add];exact hb)];exact B.c3⟩
theorem psrc_offF {W:World} {g:Nat} {m:FacV} {p:Pv} (A:FaBox W g m) (h:PSrc W p) (c:Array Value):PSrc (W.setRow g c) p:=by
 refine ⟨⟨h.vec.1,h.vec.2.1,fun ad e t ht=>?_⟩,⟨h.cloud.len,h.cloud.nil,fun ad e t ht=>?_,h.cloud.big,h.cloud.cap⟩,h.big⟩
 ·have B:=h.vec.2.2 ad e t ht;rw [cell_off c (A.ne B (fun _ _ _ h=>by cases h))];exact B
 ·have B:=h.cloud.cell ad e t ht;have hb:=A.ne B.c0 (fun _ _ _ h=>by cases h);exact ⟨by rw [cell_off c hb];exact B.c0,by rw [cell_off c (by rw [block_add];exact hb)];exact B.c1,by rw [cell_off c (by rw [block_add];exact hb)];exact B.c2⟩
theorem rcs_offF {W:World} {g:Nat} {m:FacV} {ao:Option Addr} {n cap:Nat} {L:List Rc} (A:FaBox W g m) (h:RcS W ao n cap L) (c:Array Value):RcS (W.setRow g c) ao n cap L:=by
 refine ⟨h.len,h.nil,fun ad ha t ht=>?_,fun r hr=>⟨psrc_offF A (h.ok r hr).1 c,(h.ok r hr).2⟩,h.big⟩;have B:=h.at_ ad ha t ht;have hb:=A.ne B.c0 (fun _ _ _ h=>by cases h);exact ⟨by rw [cell_off c hb];exact B.c0,by rw [cell_off c (by rw [block_add];exact hb)];exact B.c1,by rw [cell_off c (by rw [block_add];exact hb)];exact B.c2⟩
theorem FcOk.offF {W:World} {g:Nat} {m:FacV} {f:Fc} (h:FcOk W f) (A:FaBox W g m) (c:Array Value):FcOk (W.setRow g c) f:=⟨esrc_offF A h.es c,psrc_offF A h.p c,rcs_offF A h.rs c⟩
def FcE (w w':World) (e:Ending) (D:Fc -> Int -> Prop):Prop:=∃ f er,e = .returned (.tuple #[FaV (mkF f),.int .i64 er])/\FcOk w' f/\FcR f/\Below w.heap.size w w'/\D f er
attribute [local go_sem ↓] ldP_eq stP_eq ldFa_eq stFa_eq bldF_eq bsPs_eq
attribute [local go_sem] cells_PV PC_size cells_FaV FaC_size zero_FaZ run_bldF0 run_bldF12 run_bsPs
end
section
open Go.RowKit
theorem run_bldFx (a b:Option Addr) (n c m d:Nat) (p:Pv) (w:World):(bldF #[(0,.slice a n c),(1,.agg (PC p)),(2,.slice b m d)]).run Tryz.prog w = .ok (.agg (FaC (mkF ⟨a,n,c,[],p,b,m,d,[]⟩))) w:=by kernel_rfl
def ExA (w w':World) (x:Ending) (s:Fc):Prop:=∃ q:Pv,x = .returned (FaV (mkF ⟨s.ao,s.an,s.ac,s.es,q,s.ro,s.rn,s.rc,s.rs⟩))/\FcOk w' ⟨s.ao,s.an,s.ac,s.es,q,s.ro,s.rn,s.rc,s.rs⟩/\Below w.heap.size w w'/\∃ D,CanonOf (dotsG (s.es.map dotOf)) D/\∃ C:Nat -> List Rn,(∀ r,r < 16 -> MinusOf (runsAt s.p.P r) (runsAt D r) (C r))/\CanonOf C q.P
attribute [local go_sem ↓] ldP_eq stP_eq ldFa_eq stFa_eq ldSw_eq stSw_eq bldF_eq
attribute [local go_sem] cells_PV PC_size cells_FaV FaC_size zero_FaZ run_bldFx
theorem refExpand_any (s:Fc) (w:World) (hF:FcOk w s):Calls Tryz.prog 39 #[FaV (mkF s)] w fun e w'=>ExA w w' e s:=by
 have b1:=below_new w (.cells (FaC (mkF s)) 31);have X1:=SwBox_new w (mkF s);obtain ⟨w1,hw1⟩:∃ w1,w.alloc (.cells (FaC (mkF s)) 31)=w1:=⟨_,rfl⟩
 have hs1:w1.heap.size=w.heap.size+1:=by rw [<- hw1];simp
 rw [hw1] at b1 X1;have x2:FaBox (w1.alloc (.cells (FaC (mkF fz0)) 29)) w1.heap.size (mkF fz0):=FaBox_new w1 (mkF fz0);have b2:=below_new w1 (.cells (FaC (mkF fz0)) 29);obtain ⟨w2,hw2⟩:∃ w2,w1.alloc (.cells (FaC (mkF fz0)) 29)=w2:=⟨_,rfl⟩;rw [hw2] at x2 b2;rw [hs1] at x2;obtain ⟨G,hG0⟩:∃ G,w.heap.size=G:=⟨_,rfl⟩;rw [hG0] at X1 x2 hs1;have HX:=hide (X1.below b2);have HZ:=hide x2;have HBK:=hide (b1.trans (b2.mono b1.size));have HF:=hide (hF.below HBK.out);have HGs:Hid (w.heap.size=G):=hG0;clear hF b1 b2 X1 x2;have HSt:Hid (∀ W,SwBox W G (mkF s) -> (W.cell? ⟨G,0,none⟩=some (.slice s.ao s.an s.ac)/\W.cell? ⟨G,3,none⟩=some (.slice s.ro s.rn s.rc))/\(ldP (.pointer (some ⟨G,1,none⟩))).run Tryz.prog W = .ok (PV s.p) W):=fun W h=>⟨h.cs,run_ldP h.past⟩;go_enter Tryz.func39,Tryz.ntmps39;go_upto_region 1 with fail;clear hw1 hw2 hs1 hG0
 refine wp_region_held_drew (S:=fun W=>(W.cell? ⟨G,0,none⟩=some (.slice s.ao s.an s.ac)/\W.cell? ⟨G,3,none⟩=some (.slice s.ro s.rn s.rc))/\(ldP (.pointer (some ⟨G,1,none⟩))).run Tryz.prog W = .ok (PV s.p) W) (by kernel_rfl) (HSt.out _ (HX.out.below (below_drew1 w2))) (fun hHeld=>?_);refine wU 0 ?_;refine wU 1 ?_;refine wU 2 ?_;refine wU 3 ?_;refine wU 4 ?_;refine wU 5 ?_;refine wU 8 ?_;refine wU 9 ?_;refine wpAnyH_ready (rs:=[6]) (by kernel_rfl) (by simp) (.cons rfl (fun K hK=>?_) .nil);go_simp;go_wp2_with fail;refine (refDots8_any s.ao s.an s.ac s.es ⟨#[]⟩ (-1) _ (HF.out.es.below (below_drew1 w2))).mono ?_;rintro x w4 ⟨d,rfl,Sd,-,b4,Cd⟩;rw [dsB_all] at Cd;have HB4:=hide ((below_drew1 w2).trans (b4.mono (below_drew1 w2).size));have HD:=hide Sd;have HCd:=hide Cd;clear Sd Cd b4;refine hK.out _ _ (HSt.out _ (HX.out.below HB4.out)) (fun hHeld=>?_)
 clear hK K;refine wpAnyH_ready (rs:=[7]) (by kernel_rfl) (by simp) (.cons rfl (fun K hK=>?_) .nil);go_simp;go_wp2_with fail;refine (refMinus_any s.p d _ (HF.out.p.below HB4.out) HD.out).mono ?_;rintro x w5 ⟨q,rfl,Sq,-,b5,Cq⟩;have HB5:=wTr HB4 b5;have A5:=HZ.out.below HB5.out;have st:=run_stFa (m':=mkF ⟨s.ao,s.an,s.ac,[],q,s.ro,s.rn,s.rc,[]⟩) A5;have HE1:Hid (FaBox (w5.setRow (G+1) (FaC (mkF ⟨s.ao,s.an,s.ac,[],q,s.ro,s.rn,s.rc,[]⟩))) (G+1) (mkF ⟨s.ao,s.an,s.ac,s.es,q,s.ro,s.rn,s.rc,s.rs⟩)):=A5.setRow;have HXe:Hid (SwBox (w5.setRow (G+1) (FaC (mkF ⟨s.ao,s.an,s.ac,[],q,s.ro,s.rn,s.rc,[]⟩))) G (mkF s)):=(setRow_other _ _ _ _ (by omega)).trans (HX.out.below HB5.out)
 have HE:Hid (ExA w (w5.setRow (G+1) (FaC (mkF ⟨s.ao,s.an,s.ac,[],q,s.ro,s.rn,s.rc,[]⟩))) (.returned (FaV (mkF ⟨s.ao,s.an,s.ac,s.es,q,s.ro,s.rn,s.rc,s.rs⟩))) s):=
  ⟨q,rfl,FcOk.offF (f:=⟨s.ao,s.an,s.ac,s.es,q,s.ro,s.rn,s.rc,s.rs⟩) ⟨HF.out.es.below HB5.out,Sq,HF.out.rs.below HB5.out⟩ A5 _,below_setRow (HBK.out.trans (HB5.out.mono HBK.out.size)) (by rw [HGs.out];omega),d.P,HCd.out,Cq⟩
 clear Sq b5 Cq A5;refine hK.out _ _ (HSt.out _ (HX.out.below HB5.out)) (fun hHeld=>?_);clear hK K;refine wU 10 ?_;refine wpAnyH_ready (rs:=[11]) (by kernel_rfl) (by simp) (.cons rfl (fun K hK=>?_) .nil);go_simp;refine hK.out _ _ (HSt.out _ HXe.out) (fun hHeld=>?_);clear hK K;clear st;refine wpAnyH_done (by kernel_rfl) ?_ _;clear hHeld;go_wp2_with fail;refine bodyPost_ret (res1Fa rfl rfl HE1.out) rfl ?_;exact HE.out
end
section
open Go.RowKit
def UnD (f g u:Fc):Prop:=K.Asc u.es/\(∀ e,e∈u.es↔e∈f.es∨e∈g.es)/\CanonOf (runsOf [f.p,g.p]) u.p.P/\UnOf f.rs g.rs u.rs/\u.rn <= f.rn+g.rn
def UnG (w w':World) (x:Ending) (f g:Fc):Prop:=(K.Clash (f.es++g.es)/\x = .returned (.tuple #[FaV (mkF fz0),.bool false])/\Below w.heap.size w w')∨(¬ K.Clash (f.es++g.es)/\∃ u,x = .returned (.tuple #[FaV (mkF u),.bool true])/\FcOk w' u/\Below w.heap.size w w'/\UnD f g u)
attribute [local go_sem ↓] ldP_eq stP_eq ldFa_eq stFa_eq bldF_eq bsPs_eq
attribute [local go_sem] cells_PV PC_size cells_FaV FaC_size zero_FaZ run_bsPs run_bldFx zero_PC run_bldF0
end
end Go.Proofs.YtjeilkenjdnafaaGreat
