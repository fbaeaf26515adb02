/- YGd -/
import Derived.Test.YtcilfelgpmfehaaGreatBj36
set_option maxRecDepth 100000
set_option maxHeartbeats 6400000
namespace Go.Proofs.YtcilfelgpmfehaaGreat
open Go.RowKit Go.Maps
theorem eB.empty {w w':World} (hb:Below w.heap.size w w'):eB w.heap.size w.heap.size w (w'.alloc (.cells #[] 3)) (some ⟨w'.heap.size,0,none⟩) 0 []:=
 ⟨⟨rfl,Or.inr ⟨w'.heap.size,0,#[],rfl,hb.size,heap_alloc_new _ _,Nat.le_refl _,Nat.zero_le _,rfl,rfl⟩⟩,hb.alloc hb.size _,by simp;have:=hb.size;omega,Nat.le_refl _⟩
theorem dR.empty {w w':World} (hb:Below w.heap.size w w'):dR w.heap.size w.heap.size w (w'.alloc (.cells #[] 69)) (some ⟨w'.heap.size,0,none⟩) 0 []:=
 ⟨⟨rfl,Or.inr ⟨w'.heap.size,0,#[],rfl,hb.size,heap_alloc_new _ _,Nat.le_refl _,Nat.zero_le _,rfl,rfl⟩⟩,hb.alloc hb.size _,by simp;have:=hb.size;omega,Nat.le_refl _⟩
theorem eB.keepC {B0 B:Nat} {w W W':World} {a:Option Addr} {c:Nat} {L:List Int} (O:eB B0 B w W a c L) (hk:∀ k,(Value.slice a L.length c).ownBlock=some k -> W'.heap[k]? = W.heap[k]?) (hb:Below B0 w W') (hs:W.heap.size <= W'.heap.size):eB B0 B w W' a c L:=by
 refine ⟨⟨O.own.1,?_⟩,hb,Nat.le_trans O.hB hs,O.hB0⟩;rcases O.own.2 with h | ⟨g,cap2,cur,hv,dV,dB,r⟩
 ·exact Or.inl h
 ·exact Or.inr ⟨g,cap2,cur,hv,dV,(hk g (by rw [hv];rfl)).trans dB,r⟩
theorem dR.keepC {B0 B:Nat} {w W W':World} {a:Option Addr} {c:Nat} {L:List Sn} (O:dR B0 B w W a c L) (hk:∀ k,(Value.slice a L.length c).ownBlock=some k -> W'.heap[k]? = W.heap[k]?) (hb:Below B0 w W') (hs:W.heap.size <= W'.heap.size):dR B0 B w W' a c L:=by
 refine ⟨⟨O.own.1,?_⟩,hb,Nat.le_trans O.hB hs,O.hB0⟩;rcases O.own.2 with h | ⟨g,cap2,cur,hv,dV,dB,r⟩
 ·exact Or.inl h
 ·exact Or.inr ⟨g,cap2,cur,hv,dV,(hk g (by rw [hv];rfl)).trans dB,r⟩
theorem cJ.cells {w:World} {ad:Addr} {n c:Nat} {L:List Sn} (h:cJ w (some ad) n c L):∀ j u,(scs L)[j]? = some u -> w.cell? (ad.add j)=some u:=fun j u hj=>by
 have hl:j < (scs L).length:=(List.getElem?_eq_some_iff.1 hj).1;rw [wP] at hl;have hn:=h.len
 have ht:j / 3 < L.length:=by omega
 have e:j=j / 3 * 3+j % 3:=by omega
 have hm:j % 3 < 3:=by omega
 have A:=h.cell ad rfl (j / 3) (by omega);rw [e,zfo L (j / 3) (j % 3) ht hm] at hj;rw [e,<- qt];rcases (show j % 3=0∨j % 3=1∨j % 3=2 by omega) with q | q | q <;> rw [q] at hj ⊢
 ·rw [add_zero];exact (A.c0).trans hj
 ·exact (A.c1).trans hj
 ·exact (A.c2).trans hj
theorem zaD (L:List Sn):∀ v∈scs L,v.oneCell'=true:=by
 intro v hv;obtain ⟨l,hl,hv⟩:=List.mem_flatten.1 hv;obtain ⟨r,_,rfl⟩:=List.mem_map.1 hl;exact zdS r v hv
theorem eB.appRun {B0 B:Nat} {w W:World} {ao:Option Addr} {cap:Nat} {acc:List Int} (O:eB B0 B w W ao cap acc) (bo:Option Addr) (m c:Nat) (R:List Int) (hR:V.Src W bo m c R) (n l:Nat) (hn:acc.length=n) (hl:n+m=l) (cP:l <= 17592186044415) :
  ∃ a' c' W',(Builtin.append_ #[23,23] 23 #[.slice ao n cap,.slice bo m c]).run Tryz.prog W = .ok (.slice a' l c') W'/\eB B0 B w W' a' c' (acc++R)/\(∀ q,q < W.heap.size -> (Value.slice ao n cap).ownBlock≠some q -> W'.heap[q]? = W.heap[q]?)/\((Value.slice a' l c').ownBlock=(Value.slice ao n cap).ownBlock∨(Value.slice a' l c').ownBlock=some W.heap.size)/\W.heap.size <= W'.heap.size:=by
 subst hn hl;obtain ⟨i0,hi,dn,dm,ef⟩:=info_parts DQ;have hB:=O.hB;have hB0:=O.hB0
 cases bo with
 | none =>
  obtain ⟨rfl,rfl⟩:=hR.2.1 rfl;obtain rfl:R=[]:=List.eq_nil_of_length_eq_zero hR.1;have cO:=run_append_owned_none (P:=Tryz.prog) (w:=W) B 23 23 3 i0 1 Tryz.underlying23 hi _ acc.length (ics acc) O.own;exact ⟨ao,cap,W,cO,by rw [List.append_nil];exact O,fun _ _ _=>rfl,.inl rfl,Nat.le_refl _⟩
 | some ad =>
  obtain ⟨v',W2,cO,cp,aC,_,fj⟩:=run_append_own_at (P:=Tryz.prog) W B 23 23 3 i0 (.int .i64 0) 1 8 Tryz.underlying23 hi dn dm ef rfl (by decide) (.slice ao acc.length cap) acc.length (ics acc) O.own ad m c (ics R) (by rw [kG,hR.1,Nat.mul_one]) (fun j u hj=>by
   have hl:j < R.length:=by rw [<- kG];exact (List.getElem?_eq_some_iff.1 hj).1
   rw [zfA R j hl] at hj;rw [hR.2.2 ad rfl j (by rw [<- hR.1];exact hl)]
   exact hj) (zf0 R) (by unfold maxLen;omega) (by omega) hB
  have dv:∀ k,(Value.slice ao acc.length cap).ownBlock=some k -> B <= k:=fun k hk=>(O.own.lt k hk).1;have eE:=aC.size;have gV:Below B0 w W2:=O.below.grown aC (by omega) (fun k hk=>by have:=dv k hk;omega);have hm:m=R.length:=hR.1.symm
  have dw:W2.ownsRow B 3 1 v' (acc++R).length (ics (acc++R)):=by rw [List.length_append,zca,<- hm];exact cp
  rcases cp.2 with ⟨h0,eU⟩ | ⟨g,cap2,cur,hv,r⟩
  ·subst h0;have e0:acc.length+m=0:=eU;rw [e0];refine ⟨none,0,W2,cO,⟨?_,gV,by omega,hB0⟩,fun q hq hn=>aC.block q hq (fun e=>hn e.symm),fj,eE⟩;rw [List.length_append,<- hm,e0] at dw;rw [List.length_append,<- hm,e0];exact dw
  ·subst hv;refine ⟨some ⟨g,0,none⟩,cap2,W2,cO,⟨?_,gV,by omega,hB0⟩,fun q hq hn=>aC.block q hq (fun e=>hn e.symm),fj,eE⟩;rw [List.length_append,<- hm] at dw ⊢;exact dw
theorem dR.appRun {B0 B:Nat} {w W:World} {ao:Option Addr} {cap:Nat} {acc:List Sn} (O:dR B0 B w W ao cap acc) (bo:Option Addr) (m c:Nat) (R:List Sn) (hR:cJ W bo m c R) (n l:Nat) (hn:acc.length=n) (hl:n+m=l) (cP:l <= 5864062014805) :
  ∃ a' c' W',(Builtin.append_ #[24,24] 24 #[.slice ao n cap,.slice bo m c]).run Tryz.prog W = .ok (.slice a' l c') W'/\dR B0 B w W' a' c' (acc++R)/\(∀ q,q < W.heap.size -> (Value.slice ao n cap).ownBlock≠some q -> W'.heap[q]? = W.heap[q]?)/\((Value.slice a' l c').ownBlock=(Value.slice ao n cap).ownBlock∨(Value.slice a' l c').ownBlock=some W.heap.size)/\W.heap.size <= W'.heap.size:=by
 subst hn hl;obtain ⟨i0,hi,dn,dm,ef⟩:=info_parts pQ;have hB:=O.hB;have hB0:=O.hB0
 cases bo with
 | none =>
  obtain ⟨rfl,rfl⟩:=hR.nil rfl;obtain rfl:R=[]:=List.eq_nil_of_length_eq_zero hR.len;have cO:=run_append_owned_none (P:=Tryz.prog) (w:=W) B 24 24 69 i0 3 Tryz.underlying24 hi _ acc.length (scs acc) O.own;exact ⟨ao,cap,W,cO,by rw [List.append_nil];exact O,fun _ _ _=>rfl,.inl rfl,Nat.le_refl _⟩
 | some ad =>
  obtain ⟨v',W2,cO,cp,aC,_,fj⟩:=run_append_own_at (P:=Tryz.prog) W B 24 24 69 i0 (.agg #[.int .i64 0,.int .i64 0,.int .i64 0]) 3 24 Tryz.underlying24 hi dn dm ef rfl (by decide) (.slice ao acc.length cap) acc.length (scs acc) O.own ad m c (scs R) (by rw [wP,hR.len]) hR.cells (zaD R) (by unfold maxLen;omega) (by omega) hB;have dv:∀ k,(Value.slice ao acc.length cap).ownBlock=some k -> B <= k:=fun k hk=>(O.own.lt k hk).1;have eE:=aC.size;have gV:Below B0 w W2:=O.below.grown aC (by omega) (fun k hk=>by have:=dv k hk;omega);have hm:m=R.length:=hR.len.symm
  have dw:W2.ownsRow B 69 3 v' (acc++R).length (scs (acc++R)):=by rw [List.length_append,wQ,<- hm];exact cp
  rcases cp.2 with ⟨h0,eU⟩ | ⟨g,cap2,cur,hv,r⟩
  ·subst h0;have e0:acc.length+m=0:=eU;rw [e0];refine ⟨none,0,W2,cO,⟨?_,gV,by omega,hB0⟩,fun q hq hn=>aC.block q hq (fun e=>hn e.symm),fj,eE⟩;rw [List.length_append,<- hm,e0] at dw;rw [List.length_append,<- hm,e0];exact dw
  ·subst hv;refine ⟨some ⟨g,0,none⟩,cap2,W2,cO,⟨?_,gV,by omega,hB0⟩,fun q hq hn=>aC.block q hq (fun e=>hn e.symm),fj,eE⟩;rw [List.length_append,<- hm] at dw ⊢;exact dw
theorem v6 {w W:World} {g:Nat} {m p:Pv} {Q:Pst -> Prop} (hX:aE W g m) (hP:ak W p) (hN:de (g+1) p) (hb:Below w.heap.size w W) (hg:w.heap.size <= g) (hQ:Q p.P):aE (W.setRow g (PC p)) g p/\cW w (W.setRow g (PC p)) (.returned (PV p)) Q:=
 ⟨setRow_heap W g _ _ _ _ hX,p,rfl,ke hP (fun ad e=>setRow_other _ _ _ _ (by have:=hN.1 ad e;omega)) (fun ad e=>setRow_other _ _ _ _ (by have:=hN.2 ad e;omega)),hN.mono (by omega),zg hb hg,hQ⟩
structure CpW (w W:World) (I:Option (Option Addr × Nat × List Int)) (S:Option (Option Addr × Nat × List Sn)):Prop where
 bel:Below w.heap.size w W
 i:∀ a c L,I=some (a,c,L) -> eB w.heap.size w.heap.size w W a c L
 s:∀ a c L,S=some (a,c,L) -> dR w.heap.size w.heap.size w W a c L
 ap:∀ a c L a' c' L' k,I=some (a,c,L) -> S=some (a',c',L') -> (Value.slice a L.length c).ownBlock=some k -> (Value.slice a' L'.length c').ownBlock≠some k
theorem CpW.start {w W:World} (h:Below w.heap.size w W):CpW w W none none:=⟨h,fun _ _ _ e=>(by cases e),fun _ _ _ e=>(by cases e),fun _ _ _ _ _ _ _ e=>(by cases e)⟩
theorem CpW.mkI {w W:World} {S:Option (Option Addr × Nat × List Sn)} (h:CpW w W none S):CpW w (W.alloc (.cells #[] 3)) (some (some ⟨W.heap.size,0,none⟩,0,[])) S:=by
 refine ⟨h.bel.alloc h.bel.size _,fun a c L e=>?_,fun a c L e=>(h.s a c L e).later (ze W _),fun a c L a' c' L' k e1 e2 hk h2=>?_⟩
 ·cases e;exact eB.empty h.bel
 ·cases e1
  have:=((h.s _ _ _ e2).own.lt k h2).2;have:W.heap.size=k:=Option.some.inj hk;omega
theorem CpW.mkS {w W:World} {I:Option (Option Addr × Nat × List Int)} (h:CpW w W I none):CpW w (W.alloc (.cells #[] 69)) I (some (some ⟨W.heap.size,0,none⟩,0,[])):=by
 refine ⟨h.bel.alloc h.bel.size _,fun a c L e=>(h.i a c L e).later (ze W _),fun a c L e=>?_,fun a c L a' c' L' k e1 e2 hk h2=>?_⟩
 ·cases e;exact dR.empty h.bel
 ·cases e2
  have:=((h.i _ _ _ e1).own.lt k hk).2;have:W.heap.size=k:=Option.some.inj h2;omega
theorem CpW.appI {w W:World} {S:Option (Option Addr × Nat × List Sn)} {a:Option Addr} {c:Nat} (h:CpW w W (some (a,c,[])) S) {p:Pv} (hp:ak W p) :
  ∃ a' c' W',(Builtin.append_ #[23,23] 23 #[.slice a 0 c,.slice p.vo p.vn p.vc]).run Tryz.prog W = .ok (.slice a' p.vn c') W'/\CpW w W' (some (a',c',p.P.vec)) S/\Below w.heap.size w W':=by
 have O:=h.i _ _ _ rfl;obtain ⟨a',c',W',hr,O',hk,fj,eE⟩:=O.appRun p.vo p.vn p.vc p.P.vec hp.vec 0 p.vn rfl (Nat.zero_add _) hp.big;rw [List.nil_append] at O';have hl:p.P.vec.length=p.vn:=hp.vec.1;refine ⟨a',c',W',hr,⟨O'.below,fun a2 c2 L2 e=>by cases e;exact O',fun a2 c2 L2 e=>?_,fun a2 c2 L2 a3 c3 L3 k e1 e2 h1 h2=>?_⟩,O'.below⟩
 ·have O2:=h.s _ _ _ e;exact O2.keepC (fun k nJ=>hk k (O2.own.lt k nJ).2 (fun e3=>h.ap _ _ _ _ _ _ k rfl e e3 nJ)) O'.below eE
 ·cases e1
  rw [hl] at h1;have h4:=((h.s _ _ _ e2).own.lt k h2).2;rcases fj with q | q
  ·exact h.ap _ _ _ _ _ _ k rfl e2 (q.symm.trans h1) h2
  ·have:=Option.some.inj (q.symm.trans h1);omega
theorem CpW.appS {w W:World} {I:Option (Option Addr × Nat × List Int)} {a:Option Addr} {c:Nat} (h:CpW w W I (some (a,c,[]))) {p:Pv} (hp:ak W p) :
  ∃ a' c' W',(Builtin.append_ #[24,24] 24 #[.slice a 0 c,.slice p.co p.cn p.cc]).run Tryz.prog W = .ok (.slice a' p.cn c') W'/\CpW w W' I (some (a',c',p.P.cloud))/\Below w.heap.size w W':=by
 have O:=h.s _ _ _ rfl;obtain ⟨a',c',W',hr,O',hk,fj,eE⟩:=O.appRun p.co p.cn p.cc p.P.cloud hp.cloud 0 p.cn rfl (Nat.zero_add _) (by have:=hp.cloud.len;have:=hp.cloud.big;omega);rw [List.nil_append] at O';have hl:p.P.cloud.length=p.cn:=hp.cloud.len;refine ⟨a',c',W',hr,⟨O'.below,fun a2 c2 L2 e=>?_,fun a2 c2 L2 e=>(by cases e;exact O'),fun a2 c2 L2 a3 c3 L3 k e1 e2 h1 h2=>?_⟩,O'.below⟩
 ·have O2:=h.i _ _ _ e;exact O2.keepC (fun k nJ=>hk k (O2.own.lt k nJ).2 (fun e3=>h.ap _ _ _ _ _ _ k e rfl nJ e3)) O'.below eE
 ·cases e2
  rw [hl] at h2;have h4:=((h.i _ _ _ e1).own.lt k h1).2;rcases fj with q | q
  ·exact h.ap _ _ _ _ _ _ k e1 rfl h1 (q.symm.trans h2)
  ·have:=Option.some.inj (q.symm.trans h2);omega
theorem CpW.past {w W:World} {a b:Option Addr} {c d:Nat} {p:Pv} (h:CpW w W (some (a,c,p.P.vec)) (some (b,d,p.P.cloud))) {w0:World} (hp:ak w0 p):ak W ⟨a,p.vn,c,b,p.cn,d,p.P⟩/\de w.heap.size ⟨a,p.vn,c,b,p.cn,d,p.P⟩:=by
 obtain ⟨s1,n1,-,-⟩:=(h.i _ _ _ rfl).src;obtain ⟨s2,n2⟩:=(h.s _ _ _ rfl).src (by have:=hp.cloud.len;have:=hp.cloud.big;omega);rw [hp.vec.1] at s1;rw [hp.cloud.len] at s2;exact ⟨⟨s1,s2,hp.big⟩,n1,n2⟩
attribute [local go_sem ↓] zl zk kJ zcO
attribute [local go_sem] zf zh zw
theorem kv (p:Pv) (w:World) (hP:ak w p):Calls Tryz.prog 36 #[PV p] w fun e w'=>cW w w' e (fun P=>P=p.P):=by
 have b2:=ze w (.cells (PC p) 26);have X2:=zq w p;obtain ⟨w2,eZ⟩:∃ w2,w.alloc (.cells (PC p) 26)=w2:=⟨_,rfl⟩
 have ia:w2.heap.size=w.heap.size+1:=by rw [<- eZ];simp
 rw [eZ] at b2 X2;have b3:=ze w2 (.cells (PC pv0) 26);have X3:=zq w2 pv0;obtain ⟨wk,cq⟩:∃ wk,w2.alloc (.cells (PC pv0) 26)=wk:=⟨_,rfl⟩
 have IW:wk.heap.size=w.heap.size+2:=by rw [<- cq];simp [ia]
 rw [cq] at b3 X3;rw [ia] at X3;obtain ⟨G,dC⟩:∃ G,w.heap.size=G:=⟨_,rfl⟩;have rD:Hid (wk.heap.size=G+2/\w.heap.size=G):=⟨by rw [IW,dC],dC⟩;rw [dC] at X3 X2;have HX:=hide (X2.below b3);have HZ:=hide X3;have az:=hide (b2.trans (b3.mono b2.size));have HP:=hide (hP.below az.out);have lG:=hide (CpW.start (zd wk));have aw:Hid (∀ W:World,W.heap[G]? = wk.heap[G]? -> W.cell? ⟨G,0,none⟩=some (.slice p.vo p.vn p.vc)/\W.cell? ⟨G,1,none⟩=some (.slice p.co p.cn p.cc)):=fun W hW=>aE.nums (p:=p) (hW.trans HX.out);have fi:Hid (G < wk.heap.size):=HX.out.lt;clear hP b2 b3 X2 X3 IW;go_enter Tryz.func36,Tryz.ntmps36;go_upto_region 1 with fail;clear eZ cq dC ia;refine wp_region_held_drew (S:=fun W=>W.cell? ⟨G,0,none⟩=some (.slice p.vo p.vn p.vc)/\W.cell? ⟨G,1,none⟩=some (.slice p.co p.cn p.cc)) (by kernel_rfl) (aw.out _ ((zd wk).block G fi.out)) (fun hHeld=>?_)
 refine wU 1 ?_;refine wU 2 ?_;refine wU 5 ?_;refine wU 6 ?_;obtain ⟨u0,mz⟩:∃ u,wk.drew=u:=⟨_,rfl⟩;rw [mz] at lG;rw [mz];clear mz;refine wpAnyH_ready (rs:=[0,4]) (by kernel_rfl) (by simp) ?_;refine AllReadyH.cons rfl (fun K hK=>?_) (AllReadyH.cons rfl (fun K hK=>?_) AllReadyH.nil)
 ·obtain ⟨g1,dx⟩:∃ g,u0.heap.size=g:=⟨_,rfl⟩;have fS:=hide lG.out.mkI;obtain ⟨u1,CS⟩:∃ u,u0.alloc (.cells #[] 3)=u:=⟨_,rfl⟩;rw [CS] at fS;rw [dx] at fS;go_simp;refine hK.out _ _ (aw.out _ (fS.out.bel.block G fi.out)) (fun hHeld=>?_);clear hK K;clear CS dx;refine wpAnyH_ready (rs:=[3,4]) (by kernel_rfl) (by simp) ?_;refine AllReadyH.cons rfl (fun K hK=>?_) (AllReadyH.cons rfl (fun K hK=>?_) AllReadyH.nil)
  ·obtain ⟨a2,c2,u2,r2,C2,bb2⟩:=fS.out.appI (HP.out.below fS.out.bel);have i5:=hide C2;refine qe (by rfl) (.tmp 3) (.tmp 5) (by rfl) (by rfl) (by rfl) r2 ?_;refine hK.out _ _ (aw.out _ (i5.out.bel.block G fi.out)) (fun hHeld=>?_);clear hK K;clear C2 bb2 r2;refine wpAnyH_ready (rs:=[4]) (by kernel_rfl) (by simp) ?_;refine AllReadyH.cons rfl (fun K hK=>?_) AllReadyH.nil;obtain ⟨g3,tj⟩:∃ g,u2.heap.size=g:=⟨_,rfl⟩;have mX:=hide i5.out.mkS;obtain ⟨u3,Cb⟩:∃ u,u2.alloc (.cells #[] 69)=u:=⟨_,rfl⟩;rw [Cb] at mX;rw [tj] at mX;go_simp;refine hK.out _ _ (aw.out _ (mX.out.bel.block G fi.out)) (fun hHeld=>?_);clear hK K;clear Cb tj;refine wpAnyH_ready (rs:=[7]) (by kernel_rfl) (by simp) ?_;refine AllReadyH.cons rfl (fun K hK=>?_) AllReadyH.nil;obtain ⟨a4,c4,u4,r4,C4,bb4⟩:=mX.out.appS (HP.out.below mX.out.bel)
   have lB:=hide C4;refine qe (by rfl) (.tmp 7) (.tmp 9) (by rfl) (by rfl) (by rfl) r4 ?_;refine hK.out _ _ (aw.out _ (lB.out.bel.block G fi.out)) (fun hHeld=>?_);clear hK K;clear C4 bb4 r4;obtain ⟨P9,N9⟩:=lB.out.past HP.out;have iH:=HZ.out.below lB.out.bel;have BW:=rD.out;have stz:(stP (.pointer (some ⟨G+1,0,none⟩)) (.agg #[.slice a2 p.vn c2,.slice a4 p.cn c4])).run Tryz.prog u4 = .ok () (u4.setRow (G+1) (PC ⟨a2,p.vn,c2,a4,p.cn,c4,p.P⟩)):=qJ (p':=⟨a2,p.vn,c2,a4,p.cn,c4,p.P⟩) iH;have HE:=hide (v6 (w:=w) (p:=⟨a2,p.vn,c2,a4,p.cn,c4,p.P⟩) (Q:=fun P=>P=p.P) iH P9 (N9.mono (by omega)) (az.out.trans (lB.out.bel.mono az.out.size)) (by omega) rfl);have pV:=hide ((setRow_other u4 (G+1) G (PC ⟨a2,p.vn,c2,a4,p.cn,c4,p.P⟩) (by omega)).trans (lB.out.bel.block G fi.out));clear P9 N9 iH BW;refine wU 8 ?_
   refine wR 9 fun K hK=>?_;go_simp;refine hK.out _ _ (aw.out _ pV.out) (fun hHeld=>?_);clear hK K;refine wD ?_ _;clear hHeld;go_wp2_with fail;clear stz;refine bodyPost_ret (eQ rfl rfl HE.out.1) rfl ?_;exact HE.out.2
  ·obtain ⟨g5,oX⟩:∃ g,u1.heap.size=g:=⟨_,rfl⟩;have ig:=hide fS.out.mkS;obtain ⟨u5,Cu⟩:∃ u,u1.alloc (.cells #[] 69)=u:=⟨_,rfl⟩;rw [Cu] at ig;rw [oX] at ig;go_simp;refine hK.out _ _ (aw.out _ (ig.out.bel.block G fi.out)) (fun hHeld=>?_);clear hK K;clear Cu oX;refine wpAnyH_ready (rs:=[3]) (by kernel_rfl) (by simp) ?_;refine AllReadyH.cons rfl (fun K hK=>?_) AllReadyH.nil;obtain ⟨a6,c6,u6,r6,C6,bb6⟩:=ig.out.appI (HP.out.below ig.out.bel);have nD:=hide C6;refine qe (by rfl) (.tmp 3) (.tmp 5) (by rfl) (by rfl) (by rfl) r6 ?_;refine hK.out _ _ (aw.out _ (nD.out.bel.block G fi.out)) (fun hHeld=>?_);clear hK K;clear C6 bb6 r6;refine wpAnyH_ready (rs:=[7]) (by kernel_rfl) (by simp) ?_;refine AllReadyH.cons rfl (fun K hK=>?_) AllReadyH.nil;obtain ⟨a7,c7,u7,r7,C7,bb7⟩:=nD.out.appS (HP.out.below nD.out.bel)
   have ng:=hide C7;refine qe (by rfl) (.tmp 7) (.tmp 9) (by rfl) (by rfl) (by rfl) r7 ?_;refine hK.out _ _ (aw.out _ (ng.out.bel.block G fi.out)) (fun hHeld=>?_);clear hK K;clear C7 bb7 r7;obtain ⟨P9,N9⟩:=ng.out.past HP.out;have iH:=HZ.out.below ng.out.bel;have BW:=rD.out;have stz:(stP (.pointer (some ⟨G+1,0,none⟩)) (.agg #[.slice a6 p.vn c6,.slice a7 p.cn c7])).run Tryz.prog u7 = .ok () (u7.setRow (G+1) (PC ⟨a6,p.vn,c6,a7,p.cn,c7,p.P⟩)):=qJ (p':=⟨a6,p.vn,c6,a7,p.cn,c7,p.P⟩) iH;have HE:=hide (v6 (w:=w) (p:=⟨a6,p.vn,c6,a7,p.cn,c7,p.P⟩) (Q:=fun P=>P=p.P) iH P9 (N9.mono (by omega)) (az.out.trans (ng.out.bel.mono az.out.size)) (by omega) rfl);have pV:=hide ((setRow_other u7 (G+1) G (PC ⟨a6,p.vn,c6,a7,p.cn,c7,p.P⟩) (by omega)).trans (ng.out.bel.block G fi.out));clear P9 N9 iH BW;refine wU 8 ?_
   refine wR 9 fun K hK=>?_;go_simp;refine hK.out _ _ (aw.out _ pV.out) (fun hHeld=>?_);clear hK K;refine wD ?_ _;clear hHeld;go_wp2_with fail;clear stz;refine bodyPost_ret (eQ rfl rfl HE.out.1) rfl ?_;exact HE.out.2
 ·obtain ⟨g8,tk⟩:∃ g,u0.heap.size=g:=⟨_,rfl⟩;have rM:=hide lG.out.mkS;obtain ⟨u8,AR⟩:∃ u,u0.alloc (.cells #[] 69)=u:=⟨_,rfl⟩;rw [AR] at rM;rw [tk] at rM;go_simp;refine hK.out _ _ (aw.out _ (rM.out.bel.block G fi.out)) (fun hHeld=>?_);clear hK K;clear AR tk;refine wpAnyH_ready (rs:=[0]) (by kernel_rfl) (by simp) ?_;refine AllReadyH.cons rfl (fun K hK=>?_) AllReadyH.nil;obtain ⟨g9,CV⟩:∃ g,u8.heap.size=g:=⟨_,rfl⟩;have ot:=hide rM.out.mkI;obtain ⟨u9,nL⟩:∃ u,u8.alloc (.cells #[] 3)=u:=⟨_,rfl⟩;rw [nL] at ot;rw [CV] at ot;go_simp;refine hK.out _ _ (aw.out _ (ot.out.bel.block G fi.out)) (fun hHeld=>?_);clear hK K;clear nL CV;refine wpAnyH_ready (rs:=[3]) (by kernel_rfl) (by simp) ?_;refine AllReadyH.cons rfl (fun K hK=>?_) AllReadyH.nil;obtain ⟨a10,c10,u10,r10,C10,bb10⟩:=ot.out.appI (HP.out.below ot.out.bel)
  have lP:=hide C10;refine qe (by rfl) (.tmp 3) (.tmp 5) (by rfl) (by rfl) (by rfl) r10 ?_;refine hK.out _ _ (aw.out _ (lP.out.bel.block G fi.out)) (fun hHeld=>?_);clear hK K;clear C10 bb10 r10;refine wpAnyH_ready (rs:=[7]) (by kernel_rfl) (by simp) ?_;refine AllReadyH.cons rfl (fun K hK=>?_) AllReadyH.nil;obtain ⟨a11,c11,u11,r11,C11,bb11⟩:=lP.out.appS (HP.out.below lP.out.bel);have gM:=hide C11;refine qe (by rfl) (.tmp 7) (.tmp 9) (by rfl) (by rfl) (by rfl) r11 ?_;refine hK.out _ _ (aw.out _ (gM.out.bel.block G fi.out)) (fun hHeld=>?_);clear hK K;clear C11 bb11 r11;obtain ⟨P9,N9⟩:=gM.out.past HP.out;have iH:=HZ.out.below gM.out.bel;have BW:=rD.out;have stz:(stP (.pointer (some ⟨G+1,0,none⟩)) (.agg #[.slice a10 p.vn c10,.slice a11 p.cn c11])).run Tryz.prog u11 = .ok () (u11.setRow (G+1) (PC ⟨a10,p.vn,c10,a11,p.cn,c11,p.P⟩)):=qJ (p':=⟨a10,p.vn,c10,a11,p.cn,c11,p.P⟩) iH
  have HE:=hide (v6 (w:=w) (p:=⟨a10,p.vn,c10,a11,p.cn,c11,p.P⟩) (Q:=fun P=>P=p.P) iH P9 (N9.mono (by omega)) (az.out.trans (gM.out.bel.mono az.out.size)) (by omega) rfl);have pV:=hide ((setRow_other u11 (G+1) G (PC ⟨a10,p.vn,c10,a11,p.cn,c11,p.P⟩) (by omega)).trans (gM.out.bel.block G fi.out));clear P9 N9 iH BW;refine wU 8 ?_;refine wR 9 fun K hK=>?_;go_simp;refine hK.out _ _ (aw.out _ pV.out) (fun hHeld=>?_);clear hK K;refine wD ?_ _;clear hHeld;go_wp2_with fail;clear stz;refine bodyPost_ret (eQ rfl rfl HE.out.1) rfl ?_;exact HE.out.2

def EqC (f g:Fc):Prop:=g.es=f.es/\g.an=f.an/\g.p.P=f.p.P/\plR g.rs=plR f.rs/\g.rn=f.rn
theorem EqC.eqS {f g:Fc} (h:EqC f g):EqS g f:=⟨h.1,h.2.2.1,h.2.2.2.1⟩
def DI (a b:Value):Sem Value:=Instr.makeSlice 27 a b
theorem zfV (a b:Value):Instr.makeSlice 27 a b=DI a b:=rfl
theorem Ah (w:World) (n:Nat) (hn:n <= 2199023255551):∃ w':World,(DI (.int .i64 0) (.int .i64 (n:Int))).run Tryz.prog w = .ok (.slice (some ⟨w.heap.size,0,none⟩) 0 n) w'/\aL w.heap.size w w' ⟨some ⟨w.heap.size,0,none⟩,0,n⟩ []:=by
 obtain ⟨i0,hi,dn,dm,ef⟩:=info_parts fG;obtain ⟨w',h1,h2,h3⟩:=run_make_own (P:=Tryz.prog) w w.heap.size 27 84 i0 _ 3 Tryz.underlying27 hi dn dm .i64 .i64 n (by rw [ef];omega) (by unfold maxLen;omega) (Nat.le_refl _);exact ⟨w',h1,h2,fun r h=>(by cases h),(Below.refl _ _).grown h3 (Nat.le_refl _) (fun k hk=>by cases hk),Nat.le_refl _,h3.size⟩
def DN (a:Array (Nat × Value)):Sem Value:=Instr.buildSlice 27 1 a
theorem zgg (a:Array (Nat × Value)):Instr.buildSlice 27 1 a=DN a:=rfl
theorem zec (r:Rc) (w:World):(DN #[(0,.agg (ReC (mkR r)))]).run Tryz.prog w = .ok (.slice (some ⟨w.heap.size,0,none⟩) 1 1) (w.alloc (.cells (ReC (mkR r)) 84)):=by kernel_rfl
structure CrI (w:World) (L:List Rc) (k:Nat) (h:Hs) (D:List Rc) (wr:World):Prop where
 own:aL w.heap.size w wr h D
 num:h.n=k
 eq:plR D=plR (L.take k)
theorem CrI.later {w wr W:World} {L:List Rc} {k:Nat} {h:Hs} {D:List Rc} (I:CrI w L k h D wr) (hb:Below wr.heap.size wr W):CrI w L k h D W:=⟨I.own.later hb,I.num,I.eq⟩
attribute [local go_sem ↓] zR zQ zdM bM zgg zec zfV
attribute [local go_sem] zy zH zT
theorem ve (ao:Option Addr) (n ca:Nat) (L:List Rc) (w:World) (hL:RcS w ao n ca L) (hn:n <= 1099511627776):Calls Tryz.prog 37 #[.slice ao n ca] w fun e w'=>∃ h D,e = .returned (HsV h)/\RcT w' h.o h.n h.c D/\h.n=n/\plR D=plR L/\Below w.heap.size w w':=by
 have HL:=hide hL;have fE:Hid (L.length=n/\n <= 1099511627776):=⟨hL.len,hn⟩;obtain ⟨w1,LH,O1⟩:=Ah w n (by omega);have pX:Hid (CrI w L 0 ⟨some ⟨w.heap.size,0,none⟩,0,n⟩ [] w1):=⟨O1,rfl,rfl⟩;clear hL O1;go_enter Tryz.func37,Tryz.ntmps37;go_wp2_with fail;clear LH;go_loopw [3,11] (fun v i wr=>∃ (k:Nat) (h:Hs) (D:List Rc),k <= n/\i = .int .i64 k/\v = .slice h.o h.n h.c/\Hid (CrI w L k h D wr)) (fun _ i _=>n - (intOf i).toNat)
 case atStart=>exact ⟨0,⟨some ⟨w.heap.size,0,none⟩,0,n⟩,[],Nat.zero_le _,rfl,rfl,pX.out⟩
 case round =>
  obtain ⟨k,h,D,hk,rfl,rfl,HI⟩:=hrel
  rename World=>wr
  clear pX;by_cases aq:k < n
  ·obtain ⟨ad,rfl,A0⟩:=(HL.out.below HI.out.own.below).at k aq;obtain ⟨b1,o1,rfl⟩:=HL.out.spot (by omega);have ho:=(HL.out.below HI.out.own.below).okAt k aq;obtain ⟨x,Hx⟩:∃ x,Hid (L.getD k rc0=x):=⟨_,rfl⟩;rw [Hx.out] at A0 ho;rw [Addr.add_lit] at A0;have dz:=zI A0;obtain ⟨g,hg⟩:∃ g,wr.heap.size=g:=⟨_,rfl⟩;obtain ⟨w2,cr,X2,B2,-⟩:=dY wr (mkR x) g hg;have dN:=hide X2;have Le:=hide (HI.out.later B2);have AK:=hide (ho.below B2);have cj:=hide aq;have aw:Hid (∀ W,aY W g (mkR x) -> W.cell? ⟨g,0,none⟩=some (.string x.s)/\(ldP (.pointer (some ⟨g,1,none⟩))).run Tryz.prog W = .ok (PV x.p) W):=fun W hW=>⟨hW.sk,zi hW.past⟩
   have mc:Hid (∀ y,(HsV h).ownBlock=some y -> y < g):=fun y hy=>by have:=(HI.out.own.own.lt y hy).2;omega
   clear A0 ho X2 B2;go_upto_region 5 with fail;clear dz cr hg;refine wp_region_held_drew (S:=fun W=>W.cell? ⟨g,0,none⟩=some (.string x.s)/\(ldP (.pointer (some ⟨g,1,none⟩))).run Tryz.prog W = .ok (PV x.p) W) (by kernel_rfl) (aw.out _ (dN.out.below (zd w2))) (fun hHeld=>?_);refine wU 0 ?_;refine wU 1 ?_;refine wU 2 ?_;refine wU 3 ?_;refine wU 4 ?_;refine wR 5 fun K hK=>?_;have JK:=hide (Le.out.later (zd w2));go_simp;go_wp2_with fail;refine (kv x.p _ (AK.out.1.below (zd w2))).mono ?_;rintro e w4 ⟨q,rfl,p4,n4,b4,e4⟩;have nG:=hide (JK.out.later b4);have HQ:Hid (ak w4 q/\q.P=x.p.P/\dU h q):=⟨p4,e4,fun y hy=>df.new n4 (JK.out.own.own.lt y hy).2⟩;have aR:=hide ((zd w2).trans b4);refine hK.out _ _ (aw.out _ (dN.out.below aR.out)) (fun hHeld=>?_)
   clear hK K p4 n4 b4 e4;refine wU 6 ?_;refine wR 7 fun K hK=>?_;go_simp;refine hK.out _ _ (aw.out _ (dN.out.below (aR.out.trans ((ze w4 (.cells (ReC (mkR ⟨x.s,q⟩)) 84)).mono aR.out.size)))) (fun hHeld=>?_);clear hK K;refine wR 8 fun K hK=>?_;obtain ⟨g8,c8,u8,r8,O8,k8,-,-⟩:=nG.out.own.appAt ⟨x.s,q⟩ ⟨HQ.out.1,AK.out.2⟩ HQ.out.2.2 (by rw [nG.out.num];have:=fE.out;have:=cj.out;omega)
   have HN:Hid (CrI w L (k+1) ⟨some ⟨g8,0,none⟩,h.n+1,c8⟩ (D++[⟨x.s,q⟩]) u8):=⟨O8,by show h.n+1=k+1;rw [nG.out.num],by
    rw [zbm,nG.out.eq,jK L k (by have:=fE.out;have:=cj.out;omega),Hx.out,HQ.out.2.1]⟩
   have Km:aY u8 g (mkR x):=(k8 g (dN.out.below aR.out).lt (fun e=>by have:=mc.out g e;omega)).trans (dN.out.below aR.out);refine qe (by rfl) (.tmp 15) (.tmp 22) (by rfl) (by rfl) (by rfl) r8 ?_;refine hK.out _ _ (aw.out _ Km) (fun hHeld=>?_);clear hK K r8 O8 k8 Km;refine wU 9 ?_;refine wD ?_ _;clear hHeld;go_wp2_with fail;go_roundw
   case rel=>exact ⟨k+1,_,_,cj.out,by simp,rfl,HN.out⟩
   case measure=>simp [intOf];have:=cj.out;omega
  ·obtain rfl:k=n:=by omega
   obtain ⟨R1,-,R3⟩:=bX HI.out.own (by rw [HI.out.num];have:=fE.out;omega);have HE:Hid (RcT wr h.o h.n h.c D/\h.n=k/\plR D=plR L/\Below w.heap.size w wr):=⟨R1,HI.out.num,by rw [HI.out.eq,List.take_of_length_le (by have:=fE.out;omega)],R3⟩;clear R1 R3;go_wp2_with fail;go_ret;exact ⟨h,D,rfl,HE.out⟩
structure CfW (w W:World) (f:Fc) (m:Option Nat) (d:Option (Option Addr × Nat)) (q:Option Pv) (r:Option (Hs × List Rc)):Prop where
 bel:Below w.heap.size w W
 m:∀ g,m=some g -> K.cY w.heap.size w.heap.size w W (some ⟨g,0,none⟩) 0 []
 d:∀ a c,d=some (a,c) -> K.aF W a f.an c f.es
 q:∀ x,q=some x -> ak W x/\x.P=f.p.P
 r:∀ h D,r=some (h,D) -> RcT W h.o h.n h.c D/\h.n=f.rn/\plR D=plR f.rs
theorem CfW.start {w W:World} {f:Fc} (h:Below w.heap.size w W):CfW w W f none none none none:=⟨h,fun _ e=>(by cases e),fun _ _ e=>(by cases e),fun _ e=>(by cases e),fun _ _ e=>(by cases e)⟩
theorem CfW.mkE {w W:World} {f:Fc} (h:CfW w W f none none none none):CfW w (W.alloc (.cells #[] 66)) f (some W.heap.size) none none none:=
 ⟨h.bel.alloc h.bel.size _,fun g e=>by cases e;exact K.cY.empty h.bel h.bel.size (Nat.le_refl _),fun _ _ e=>(by cases e),fun _ e=>(by cases e),fun _ _ e=>(by cases e)⟩
theorem CfW.appE {w W:World} {f:Fc} {g:Nat} (h:CfW w W f (some g) none none none) (hf:K.aF W f.ao f.an f.ac f.es) :
  ∃ a' c' W',(Builtin.append_ #[22,22] 22 #[.slice (some ⟨g,0,none⟩) 0 0,.slice f.ao f.an f.ac]).run Tryz.prog W = .ok (.slice a' f.an c') W'/\CfW w W' f none (some (a',c')) none none:=by
 have O:=h.m _ rfl;obtain ⟨a',c',W',hr,O',-,-,-⟩:=O.appRun f.ao f.an f.ac f.es hf 0 f.an rfl (Nat.zero_add _) hf.2.2.2.2;rw [List.nil_append] at O';have hl:f.es.length=f.an:=hf.1;obtain ⟨S1,-⟩:=O'.src hf.2.2.2.1 (by have:=hf.2.2.2.2;omega);rw [hl] at S1;exact ⟨a',c',W',hr,O'.below,fun _ e=>(by cases e),fun a c e=>by cases e;exact S1,fun _ e=>(by cases e),fun _ _ e=>(by cases e)⟩
theorem CfW.setP {w W W':World} {f:Fc} {d:Option (Option Addr × Nat)} {q:Pv} (h:CfW w W f none d none none) (hb:Below W.heap.size W W') (hq:ak W' q) (he:q.P=f.p.P):CfW w W' f none d (some q) none:=
 ⟨h.bel.trans (hb.mono h.bel.size),fun _ e=>(by cases e),fun a c e=>(h.d a c e).below hb,fun x e=>by cases e;exact ⟨hq,he⟩,fun _ _ e=>(by cases e)⟩
theorem CfW.setR {w W W':World} {f:Fc} {d:Option (Option Addr × Nat)} {q:Pv} {r:Hs} {D:List Rc} (h:CfW w W f none d (some q) none) (hb:Below W.heap.size W W') (hr:RcT W' r.o r.n r.c D) (hn:r.n=f.rn) (he:plR D=plR f.rs):CfW w W' f none d (some q) (some (r,D)):=
 ⟨h.bel.trans (hb.mono h.bel.size),fun _ e=>(by cases e),fun a c e=>(h.d a c e).below hb,fun x e=>⟨(h.q x e).1.below hb,(h.q x e).2⟩,fun _ _ e=>by cases e;exact ⟨hr,hn,he⟩⟩
theorem zgC {L M:List Rc} (h:plR L=plR M) (hc:∀ r∈M,r.p.P.cloud.length <= 1048576):∀ r∈L,r.p.P.cloud.length <= 1048576:=fun r hr=>by
 have:(r.s,r.p.P)∈plR M:=by rw [<- h];exact List.mem_map.2 ⟨r,hr,rfl⟩
 obtain ⟨y,hy,e⟩:=List.mem_map.1 this;have e2:y.p.P=r.p.P:=(Prod.mk.inj e).2;rw [<- e2];exact hc y hy
theorem CfW.done {w W:World} {N:Nat} {f:Fc} {a:Option Addr} {c:Nat} {q:Pv} {r:Hs} {D:List Rc} (h:CfW w W f none (some (a,c)) (some q) (some (r,D))) {w0:World} (hf:SwB N w0 f):SwB N W ⟨a,f.an,c,f.es,q,r.o,f.rn,r.c,D⟩/\EqC f ⟨a,f.an,c,f.es,q,r.o,f.rn,r.c,D⟩:=by
 obtain ⟨r1,r2,r3⟩:=h.r _ _ rfl;obtain ⟨q1,q2⟩:=h.q _ rfl;rw [r2] at r1;exact ⟨⟨⟨h.d _ _ rfl,q1,r1.src⟩,⟨r1.room,r1.nil⟩,hf.rn,hf.an,zgC r3 hf.cl⟩,rfl,rfl,q2,r3,rfl⟩
def CyE (N:Nat) (w w':World) (x:Ending) (f:Fc):Prop:=∃ g,x = .returned (FaV (mkF g))/\SwB N w' g/\EqC f g/\Below w.heap.size w w'
theorem zbY (a b:Option Addr) (n c m d:Nat) (p:Pv) (w:World):(mR #[(0,.slice a n c),(1,.agg (PC p)),(2,.slice b m d)]).run Tryz.prog w = .ok (.agg (FaC (mkF ⟨a,n,c,[],p,b,m,d,[]⟩))) w:=by kernel_rfl
attribute [local go_sem ↓] zM zL jC zbY zK zJ xm xQ
attribute [local go_sem] zj zr zF
theorem zY (N:Nat) (hN:N <= 4) (f:Fc) (w:World) (hF:SwB N w f):Calls Tryz.prog 9 #[FaV (mkF f)] w fun e w'=>CyE N w w' e f:=by
 have b2:=ze w (.cells (FaC (mkF f)) 29);have X2:=zP w (mkF f);obtain ⟨w2,eZ⟩:∃ w2,w.alloc (.cells (FaC (mkF f)) 29)=w2:=⟨_,rfl⟩
 have ia:w2.heap.size=w.heap.size+1:=by rw [<- eZ];simp
 rw [eZ] at b2 X2;have b3:=ze w2 (.cells (FaC (mkF fz0)) 29);have X3:=zP w2 (mkF fz0);obtain ⟨wk,cq⟩:∃ wk,w2.alloc (.cells (FaC (mkF fz0)) 29)=wk:=⟨_,rfl⟩;rw [cq] at b3 X3;rw [ia] at X3;obtain ⟨G,dC⟩:∃ G,w.heap.size=G:=⟨_,rfl⟩;have iP:Hid (w.heap.size=G):=dC;rw [dC] at X3 X2;have HX:=hide (X2.below b3);have HZ:=hide X3;have az:=hide (b2.trans (b3.mono b2.size));have HF:=hide (hF.below az.out);have lG:=hide (CfW.start (f:=f) (zd wk));have aw:Hid (∀ W,Below wk.heap.size wk W -> W.cell? ⟨G,0,none⟩=some (.slice f.ao f.an f.ac)/\(ldP (.pointer (some ⟨G,1,none⟩))).run Tryz.prog W = .ok (PV f.p) W/\W.cell? ⟨G,3,none⟩=some (.slice f.ro f.rn f.rc)):=fun W hW=>⟨(HX.out.below hW).c0,zi (HX.out.below hW).past,(HX.out.below hW).c3⟩;clear hF b2 b3 X2 X3;go_enter Tryz.func9,Tryz.ntmps9;go_upto_region 1 with fail
 clear eZ cq dC ia;refine wp_region_held_drew (S:=fun W=>W.cell? ⟨G,0,none⟩=some (.slice f.ao f.an f.ac)/\(ldP (.pointer (some ⟨G,1,none⟩))).run Tryz.prog W = .ok (PV f.p) W/\W.cell? ⟨G,3,none⟩=some (.slice f.ro f.rn f.rc)) (by kernel_rfl) (aw.out _ (zd wk)) (fun hHeld=>?_);refine wU 1 ?_;refine wU 2 ?_;refine wU 4 ?_;refine wU 5 ?_;refine wU 7 ?_;refine wU 8 ?_;obtain ⟨u0,mz⟩:∃ u,wk.drew=u:=⟨_,rfl⟩;rw [mz] at lG;rw [mz];clear mz;refine wR 0 fun K hK=>?_;obtain ⟨g1,dx⟩:∃ g,u0.heap.size=g:=⟨_,rfl⟩;have fS:=hide lG.out.mkE;obtain ⟨u1,CS⟩:∃ u,u0.alloc (.cells #[] 66)=u:=⟨_,rfl⟩;rw [CS] at fS;rw [dx] at fS;go_simp;refine hK.out _ _ (aw.out _ fS.out.bel) (fun hHeld=>?_);clear hK K;clear CS dx;refine wR 3 fun K hK=>?_
 obtain ⟨a2,c2,u2,r2,C2⟩:=fS.out.appE (HF.out.ok.below fS.out.bel).es;have i5:=hide C2;refine qe (by rfl) (.tmp 3) (.tmp 5) (by rfl) (by rfl) (by rfl) r2 ?_;refine hK.out _ _ (aw.out _ i5.out.bel) (fun hHeld=>?_);clear hK K;clear C2 r2;refine wR 6 fun K hK=>?_;go_simp;go_wp2_with fail;refine (kv f.p _ (HF.out.ok.below i5.out.bel).p).mono ?_;rintro e u3 ⟨q3,rfl,p3,n3,b3,e3⟩;have mX:=hide (i5.out.setP b3 p3 e3);refine hK.out _ _ (aw.out _ mX.out.bel) (fun hHeld=>?_);clear hK K;clear p3 n3 b3 e3;refine wR 9 fun K hK=>?_;go_simp;go_wp2_with fail;refine (ve f.ro f.rn f.rc f.rs _ (HF.out.ok.below mX.out.bel).rs (by have:=HF.out.rn;omega)).mono ?_;rintro e u4 ⟨h4,D4,rfl,t4,n4,e4,b4⟩
 have lB:=hide (mX.out.setR b4 t4 n4 e4);refine hK.out _ _ (aw.out _ lB.out.bel) (fun hHeld=>?_);clear hK K;obtain ⟨o4,m4,k4⟩:=h4;obtain rfl:m4=f.rn:=n4;clear t4 b4 e4;obtain ⟨S9,E9⟩:=lB.out.done HF.out;have iH:=HZ.out.below lB.out.bel;have stz:(mJ (.pointer (some ⟨G+1,0,none⟩)) (.agg (FaC (mkF ⟨a2,f.an,c2,[],q3,o4,f.rn,k4,[]⟩)))).run Tryz.prog u4 = .ok () (u4.setRow (G+1) (FaC (mkF ⟨a2,f.an,c2,f.es,q3,o4,f.rn,k4,D4⟩))):=xp (m':=mkF ⟨a2,f.an,c2,f.es,q3,o4,f.rn,k4,D4⟩) iH;have HE:Hid (aD (u4.setRow (G+1) (FaC (mkF ⟨a2,f.an,c2,f.es,q3,o4,f.rn,k4,D4⟩))) (G+1) (mkF ⟨a2,f.an,c2,f.es,q3,o4,f.rn,k4,D4⟩)/\CyE N w (u4.setRow (G+1) (FaC (mkF ⟨a2,f.an,c2,f.es,q3,o4,f.rn,k4,D4⟩))) (.returned (FaV (mkF ⟨a2,f.an,c2,f.es,q3,o4,f.rn,k4,D4⟩))) f):=⟨iH.setRow,_,rfl,S9.offFa iH _,E9,zg (az.out.trans (lB.out.bel.mono az.out.size)) (by have:=iP.out;omega)⟩
 have pV:Hid (Below wk.heap.size wk (u4.setRow (G+1) (FaC (mkF ⟨a2,f.an,c2,f.es,q3,o4,f.rn,k4,D4⟩)))∨True):=.inr trivial;have HG:Hid (aD (u4.setRow (G+1) (FaC (mkF ⟨a2,f.an,c2,f.es,q3,o4,f.rn,k4,D4⟩))) G (mkF f)):=(setRow_other _ _ _ _ (by omega)).trans (HX.out.below lB.out.bel);clear S9 E9 iH pV;refine wU 10 ?_;refine wR 11 fun K hK=>?_;go_simp;refine hK.out _ _ ⟨HG.out.c0,zi HG.out.past,HG.out.c3⟩ (fun hHeld=>?_);clear hK K;refine wD ?_ _;clear hHeld;go_wp2_with fail;clear stz;refine bodyPost_ret (pt rfl rfl HE.out.1) rfl ?_;exact HE.out.2
end Go.Proofs.YtcilfelgpmfehaaGreat
