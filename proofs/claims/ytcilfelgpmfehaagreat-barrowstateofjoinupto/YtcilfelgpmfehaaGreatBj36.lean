/- YEb YGc BAe -/
import Derived.Test.YtcilfelgpmfehaaGreatBj35
import Derived.Maps.AppendAt
import Derived.Laws.AppendOwnNone
set_option maxRecDepth 100000
set_option maxHeartbeats 3200000
namespace Go.Proofs.YtcilfelgpmfehaaGreat
section
open Go.RowKit
attribute [local go_sem ↓] zl zk zM zL zK zJ
attribute [local go_sem] zf zh zj zr zF
theorem qM {f s t:Fc} (h:StD f s) (k:StD f t):EqS s t:=by
 have eP:s.p.P=t.p.P:=h.2.1.one k.2.1;exact ⟨h.1.trans k.1.symm,eP,by rw [h.2.2.2,k.2.2.2,eP]⟩
theorem uT (w:World) (f s:Fc):∃ wk,(w.alloc (.cells (FaC (mkF f)) 29)).alloc (.cells (FaC (mkF s)) 38)=wk/\Hid (aD wk w.heap.size (mkF f))/\Hid (aI wk (w.heap.size+1) (mkF s))/\Hid (Below w.heap.size w wk):=by
 have b1:=ze w (.cells (FaC (mkF f)) 29);have b2:=ze (w.alloc (.cells (FaC (mkF f)) 29)) (.cells (FaC (mkF s)) 38);have X2:=qD (w.alloc (.cells (FaC (mkF f)) 29)) (mkF s);rw [World.size_alloc] at X2;exact ⟨_,rfl,(zP w (mkF f)).below b2,X2,b1.trans (b2.mono b1.size)⟩
theorem zcr (N M:Nat) (hNM:N+M <= 4) (f t:Fc) (w:World) (hF:SwB N w f) (hT:SwB M w t) (ff:aB f) (ft:aJ t) (h:StD f t):Calls Tryz.prog 14 #[FaV (mkF f),FaV (mkF t)] w fun e w'=>e = .returned (.bool true)/\Below w.heap.size w w':=by
 obtain ⟨wk,cq,HX,HY,az⟩:=uT w f t;obtain ⟨G,dC⟩:∃ G,w.heap.size=G:=⟨_,rfl⟩;rw [dC] at HX HY;have HF:=hide (hF.below az.out);have HT:=hide (hT.below az.out);have HP:Hid (aB f/\aJ t/\StD f t):=⟨ff,ft,h⟩;clear hF hT ff ft h;have l0:=qd HX.out;go_enter Tryz.func14,Tryz.ntmps14;go_wp2_with fail;clear cq dC l0;refine (jx N (by omega) f _ HF.out).mono ?_;rintro e v3 ⟨s,er,rfl,Ss,b3,hs⟩
 obtain ⟨rfl,hS⟩:er=0/\StD f s:=by
  rcases hs with ⟨h,-⟩ | ⟨-,h,k⟩
  ·exact absurd HP.out.1 h
  ·exact ⟨h,k⟩
 obtain ⟨gs,BY⟩:∃ g,v3.heap.size=g:=⟨_,rfl⟩;obtain ⟨w3,cr,X3,B3,-⟩:=fP v3 s gs BY;have b33:=b3.trans (B3.mono b3.size);have aN:=hide b33;have Md:=hide X3;have IP:=hide (Ss.below B3);have HE:Hid (ab s=ab t):=zdR (qM hS HP.out.2.2).1 (qM hS HP.out.2.2).2.1 (qM hS HP.out.2.2).2.2;clear Ss b3 hs hS X3 B3 b33;have l0:=z6 Md.out;have l1:=z6 (HY.out.below aN.out);go_wp2_with fail;clear l0 l1 cr BY;refine (zay N M hNM s t _ IP.out (HT.out.below aN.out)).mono ?_;rintro e w4 ⟨o,er,rfl,b4,ho⟩;have aR:=hide (az.out.trans ((aN.out.trans (b4.mono aN.out.size)).mono az.out.size));have fa:FmA (ab t):=(wd HT.out.ok).1 HP.out.2.1;have fs:aJ s:=(wd IP.out.ok).2 (by rw [HE.out];exact fa)
 have hL:LeS s t/\LeS t s:=by
  unfold LeS;rw [HE.out];exact ⟨le_refl fa,le_refl fa⟩
 have hn:¬ K.aV (s.es++t.es):=by
  have h1:=zbq fa;rw [show s.es=t.es from congrArg Ab.L HE.out];exact h1
 obtain ⟨rfl,rfl⟩:o=0/\er=0:=by
  rcases ho with ⟨h,-⟩ | ⟨-,h,-⟩ | ⟨-,-,h,k⟩
  ·exact absurd ⟨fs,HP.out.2.1⟩ h
  ·exact absurd h hn
  ·rcases k with ⟨-,-,k⟩ | ⟨-,k,-⟩ | ⟨k,-⟩ | ⟨k,-⟩
   ·exact ⟨k,h⟩
   ·exact absurd hL.2 k
   ·exact absurd hL.1 k
   ·exact absurd hL.1 k
 clear b4 ho fa fs hL hn;go_wp2_with fail;go_ret;exact ⟨rfl,aR.out⟩
end
section
open Go.RowKit
attribute [local go_sem ↓] zl zk qX vJ
attribute [local go_sem] zw zf zW zh
theorem yD (ao bo:Option Addr) (n c m d:Nat) (Z:List Int) (w:World) (hA:V.Src w ao n c Z) (hB:V.Src w bo m d Z) (hn:n <= 17592186044415):Calls Tryz.prog 49 #[.slice ao n c,.slice bo m d] w fun e w'=>e = .returned (.bool true)/\Below w.heap.size w w':=by
 have HA:=hide hA;have HB:=hide hB;obtain rfl:n=m:=hA.1.symm.trans hB.1;clear hA hB;go_enter Tryz.func49,Tryz.ntmps49;go_wp2_with fail;go_loopw [13] (fun i wr=>∃ k:Nat,k <= n/\i = .int .i64 k/\Hid (Below w.heap.size w wr)) (fun i _=>n - (intOf i).toNat)
 case atStart=>exact ⟨0,Nat.zero_le _,rfl,Below.refl _ _⟩
 case round =>
  obtain ⟨k,hk,rfl,eK⟩:=hrel
  rename World=>wr
  by_cases aq:k < n
  ·obtain ⟨ad,rfl,q1⟩:=qT (HA.out.below eK.out) k aq;obtain ⟨bd,rfl,q2⟩:=qT (HB.out.below eK.out) k aq;obtain ⟨x,hx⟩:∃ x,Z.getD k 0=x:=⟨_,rfl⟩;rw [hx] at q1 q2;have r3:=cell_regrown q1;have r4:=cell_regrown q2
   have he:(x != x)=false:=by simp
   clear q1 q2 hx;go_wp2_with fail;refine wp_region_quiet_below (by kernel_rfl) (by kernel_rfl) ?_
   repeat (with_reducible (refine wpQuiet_step ?_);intro K hK;go_simp;(try rw [if_neg (by unfold undef;simp)]);first | (with_reducible (refine hK _ ?_);clear hK K) | (apply Exists.intro;refine ⟨fun _=>?_,hK _ ?_⟩;(fail);clear hK K))
   with_reducible (refine wpQuiet_nil ?_)
   intro w7 hw';obtain ⟨⟨dq,osq⟩,hw''⟩:=hw'
   have cM:Hid (Below w.heap.size w w7):=by rw [hw''];exact eK.out.trans ((below_regrown wr dq osq).mono eK.out.size)
   clear hw'' dq osq r3 r4;go_wp2_with fail;go_roundw
   case rel=>exact ⟨k+1,by omega,by go_num,cM.out⟩
   case measure=>simp [intOf];omega
  ·go_wp2_with fail;go_ret;exact ⟨rfl,eK.out⟩
theorem jd (a b:Pv) (w:World) (hA:ak w a) (hB:ak w b) (hE:a.P=b.P):Calls Tryz.prog 18 #[PV a,PV b] w fun e w'=>e = .returned (.bool true)/\Below w.heap.size w w':=by
 have b1:=ze w (.cells (PC a) 26);have b2:=ze (w.alloc (.cells (PC a) 26)) (.cells (PC b) 26);have p2:=zq (w.alloc (.cells (PC a) 26)) b;rw [World.size_alloc] at p2;have nP:=hide ((zq w a).below b2);have me:=hide p2;have az:=hide (b1.trans (b2.mono b1.size));have iD:=hide (hA.below az.out);have gk:=hide (hB.below az.out);obtain ⟨wk,cq⟩:∃ wk,(w.alloc (.cells (PC a) 26)).alloc (.cells (PC b) 26)=wk:=⟨_,rfl⟩;rw [cq] at nP me az iD gk;obtain ⟨a0,a1⟩:=nP.out.nums;obtain ⟨c0,c1⟩:=me.out.nums;have I3:=hide iD.out.vec;have JM:=hide gk.out.vec;have CE:=hide iD.out.cloud;have GJ:=hide gk.out.cloud;have g1:=hA.big;have g2:=hA.cloud.big;clear b1 b2 p2 hA hB iD gk;obtain ⟨avo,avn,avc,aco,acn,acc,aP⟩:=a;obtain ⟨bvo,bvn,bvc,bco,bcn,bcc,bP⟩:=b;dsimp only at a0 a1 c0 c1 I3 JM CE GJ g1 g2 hE ⊢
 subst hE;obtain rfl:acn=bcn:=CE.out.len.symm.trans GJ.out.len;have HG:=hide g1;clear g1;go_enter Tryz.func18,Tryz.ntmps18;go_wp2_with fail;clear cq;refine (yD avo bvo avn avc bvn bvc aP.vec _ I3.out JM.out HG.out).mono ?_;rintro e w1 ⟨rfl,b3⟩;have aN:=hide b3;have a1':=(b3.cell (World.block_lt_of_cell? _ _ a1)).trans a1;have c1':=(b3.cell (World.block_lt_of_cell? _ _ c1)).trans c1;clear b3
 have hcc:((acn:Int) != (acn:Int))=false:=by simp
 go_wp2_with fail;clear a1' c1' hcc;go_loopw [24] (fun i wr=>∃ k:Nat,k <= acn/\i = .int .i64 k/\Hid (Below wk.heap.size wk wr)) (fun i _=>acn - (intOf i).toNat)
 case atStart=>exact ⟨0,Nat.zero_le _,rfl,aN.out⟩
 case round =>
  obtain ⟨j,hj,rfl,HB⟩:=hrel
  rename World=>w6
  have a1':=(HB.out.cell (World.block_lt_of_cell? _ _ a1)).trans a1;have c1':=(HB.out.cell (World.block_lt_of_cell? _ _ c1)).trans c1;by_cases aq:j < acn
  ·obtain ⟨ad,rfl,q1⟩:=(CE.out.below HB.out).at j aq;obtain ⟨bd,rfl,q2⟩:=(GJ.out.below HB.out).at j aq;obtain ⟨x,hx⟩:∃ x,aP.cloud.getD j sn0=x:=⟨_,rfl⟩;rw [hx] at q1 q2;have r1:=cell_regrown a1';have r2:=cell_regrown c1';have r3:∀ d os,(ldS (.pointer (some (ad.add (j * 3))))).run Tryz.prog (Sort.grow (redrawn w6 d) os) = .ok (SV x) (Sort.grow (redrawn w6 d) os):=fun d os=>zS (q1.on (below_regrown w6 d os));have r4:∀ d os,(ldS (.pointer (some (bd.add (j * 3))))).run Tryz.prog (Sort.grow (redrawn w6 d) os) = .ok (SV x) (Sort.grow (redrawn w6 d) os):=fun d os=>zS (q2.on (below_regrown w6 d os));have hz:eqS x x=true:=(xY x x).2 rfl;clear q1 q2 hx a1' c1';go_wp2_with fail;refine wp_region_quiet_below (by kernel_rfl) (by kernel_rfl) ?_
   repeat (with_reducible (refine wpQuiet_step ?_);intro K hK;go_simp;(try rw [if_neg (by unfold undef;simp)]);first | (with_reducible (refine hK _ ?_);clear hK K) | (apply Exists.intro;refine ⟨fun _=>?_,hK _ ?_⟩;(fail);clear hK K))
   with_reducible (refine wpQuiet_nil ?_)
   intro w7 hw';obtain ⟨⟨dq,osq⟩,hw''⟩:=hw'
   have cM:Hid (Below wk.heap.size wk w7):=by rw [hw''];exact HB.out.trans ((below_regrown w6 dq osq).mono HB.out.size)
   clear hw'' dq osq r1 r2 r3 r4;go_wp2_with fail;go_roundw
   case rel=>exact ⟨j+1,by omega,by go_num,cM.out⟩
   case measure=>simp [intOf];omega
  ·have dA:=wTr az HB.out;go_wp2_with fail;go_ret;exact ⟨rfl,dA.out⟩
theorem zee {L M:List Rc} (h:plR L=plR M) (k:Nat) (h1:k < L.length) (h2:k < M.length):(L.getD k rc0).s=(M.getD k rc0).s/\(L.getD k rc0).p.P=(M.getD k rc0).p.P:=by
 have e1:=jK L k h1;have e2:=jK M k h2
 have t:∀ j,plR (L.take j)=plR (M.take j):=fun j=>by unfold plR at h ⊢;rw [List.map_take,List.map_take,h]
 rw [t,t,e2] at e1;have:=List.append_cancel_left e1;exact ⟨(Prod.mk.inj (List.cons.inj this).1).1.symm,(Prod.mk.inj (List.cons.inj this).1).2.symm⟩
attribute [local go_sem ↓] zR zQ
theorem kY (ao bo:Option Addr) (n m ca cb:Nat) (L M:List Rc) (w:World) (hL:RcS w ao n ca L) (hM:RcS w bo m cb M) (hE:plR L=plR M):Calls Tryz.prog 44 #[.slice ao n ca,.slice bo m cb] w fun e w'=>e = .returned (.bool true)/\Below w.heap.size w w':=by
 have HL:=hide hL;have HM:=hide hM;have HE:=hide hE;have hn:=hL.big
 have GS:Hid (L.length=n/\M.length=n):=by
  have e:=congrArg List.length hE;rw [jt,jt] at e;exact ⟨hL.len,e.symm.trans hL.len⟩
 obtain rfl:n=m:=GS.out.2.symm.trans hM.len;clear hL hM hE;go_enter Tryz.func44,Tryz.ntmps44;go_wp2_with fail;go_loopw [13] (fun i wr=>∃ k:Nat,k <= n/\i = .int .i64 k/\Hid (Below w.heap.size w wr)) (fun i _=>n - (intOf i).toNat)
 case atStart=>exact ⟨0,Nat.zero_le _,rfl,Below.refl _ _⟩
 case round =>
  obtain ⟨k,hk,rfl,HK⟩:=hrel
  rename World=>wr
  by_cases aq:k < n
  ·obtain ⟨ad,rfl,A0⟩:=(HL.out.below HK.out).at k aq;obtain ⟨bd,rfl,B0⟩:=(HM.out.below HK.out).at k aq;obtain ⟨b1,o1,rfl⟩:=HL.out.spot (by omega);obtain ⟨b2,o2,rfl⟩:=HM.out.spot (by omega);have pX:=(HL.out.below HK.out).okAt k aq;have mq:=(HM.out.below HK.out).okAt k aq;obtain ⟨s1,s2⟩:=zee HE.out k (by have:=GS.out;omega) (by have:=GS.out;omega);obtain ⟨x,Hx⟩:∃ x,Hid (L.getD k rc0=x):=⟨_,rfl⟩;obtain ⟨y,Hy⟩:∃ y,Hid (M.getD k rc0=y):=⟨_,rfl⟩;rw [Hx.out] at A0 pX s1 s2;rw [Hy.out] at B0 mq s1 s2;rw [Addr.add_lit] at A0 B0;have HA:=hide A0;have HB:=hide B0;have HO:Hid (ak wr x.p/\ak wr y.p):=⟨pX.1,mq.1⟩;have HS:=hide s2
   have CG:(x.s.toList == y.s.toList)=true:=by rw [s1];simp
   clear A0 B0 pX mq s1 s2;have cj:=hide aq;go_upto_region 6 with fail;refine wp_region_held_drew (S:=fun v=>(v.cell? ⟨b1,o1+k * 3,none⟩=some (.string x.s)/\v.cell? ⟨b2,o2+k * 3,none⟩=some (.string y.s))/\(ldP (.pointer (some ⟨b1,o1+k * 3+1,none⟩))).run Tryz.prog v = .ok (PV x.p) v/\(ldP (.pointer (some ⟨b2,o2+k * 3+1,none⟩))).run Tryz.prog v = .ok (PV y.p) v) (by kernel_rfl) (⟨⟨(HA.out.on (zd wr)).flat.1,(HB.out.on (zd wr)).flat.1⟩,zi (HA.out.on (zd wr)).flat.2,zi (HB.out.on (zd wr)).flat.2⟩) (fun hHeld=>?_);refine wU 0 ?_;refine wU 1 ?_;refine wU 2 ?_;refine wU 3 ?_;refine wU 4 ?_;refine wU 5 ?_;refine wU 6 ?_;refine wU 7 ?_;refine wU 8 ?_;refine wU 9 ?_;refine wU 10 ?_;refine wU 11 ?_;refine wU 12 ?_;refine wU 13 ?_;refine wU 14 ?_;refine wU 15 ?_;refine wU 16 ?_;refine wU 17 ?_
   refine wU 18 ?_;refine wU 19 ?_;refine wU 20 ?_;refine wU 21 ?_;refine wR 22 fun K hK=>?_;go_simp;go_wp2_with fail;refine (jd x.p y.p _ (HO.out.1.below (zd wr)) (HO.out.2.below (zd wr)) HS.out).mono ?_;rintro e w7 ⟨rfl,b7⟩;have At:Below wr.heap.size wr w7:=(zd wr).trans b7;have cM:=wTr HK At;refine hK.out _ _ (⟨⟨(HA.out.on (At)).flat.1,(HB.out.on (At)).flat.1⟩,zi (HA.out.on (At)).flat.2,zi (HB.out.on (At)).flat.2⟩) (fun hHeld=>?_);clear hK K b7 At;refine wU 23 ?_;refine wU 24 ?_;refine wD ?_ _;clear hHeld;go_wp2_with fail;go_roundw
   case rel=>exact ⟨k+1,by omega,by go_num,cM.out⟩
   case measure=>simp [intOf];omega
  ·go_wp2_with fail;go_ret;exact ⟨rfl,HK.out⟩
attribute [local go_sem ↓] zK zJ
attribute [local go_sem] zj zr
theorem zG (a b:Fc) (w:World) (hF:a8 w a) (hG:a8 w b) (hE:EqS a b):Calls Tryz.prog 13 #[FaV (mkF a),FaV (mkF b)] w fun e w'=>e = .returned (.bool true)/\Below w.heap.size w w':=by
 obtain ⟨wk,cq,HX,HY,az⟩:=DM w a b;obtain ⟨G,dC⟩:∃ G,w.heap.size=G:=⟨_,rfl⟩;rw [dC] at HX HY;have HF:=hide (hF.below az.out);have HG:=hide (hG.below az.out);have HE:=hide hE;clear hF hG hE;have c0:=HX.out.cs.1;have d0:=HY.out.cs.1;go_enter Tryz.func13,Tryz.ntmps13;go_wp2_with fail;clear cq dC c0 d0;refine (K.jo a.ao b.ao a.an a.ac b.an b.ac a.es b.es _ HF.out.es HG.out.es HE.out.1).mono ?_;rintro e w3 ⟨rfl,b3⟩;have aN:=hide b3;clear b3;have lp:=zi (HX.out.below aN.out).past;have lq:=zi (HY.out.below aN.out).past;go_wp2_with fail;clear lp lq;refine (jd a.p b.p _ (HF.out.below aN.out).p (HG.out.below aN.out).p HE.out.2.1).mono ?_;rintro e w4 ⟨rfl,b4⟩;have aR:=wTr aN b4;clear b4;have c3:=(HX.out.below aR.out).cs.2;have d3:=(HY.out.below aR.out).cs.2;go_wp2_with fail;clear c3 d3
 refine (kY a.ro b.ro a.rn b.rn a.rc b.rc a.rs b.rs _ (HF.out.below aR.out).rs (HG.out.below aR.out).rs HE.out.2.2).mono ?_;rintro e w5 ⟨rfl,b5⟩;have ee:=hide (az.out.trans ((aR.out.trans (b5.mono aR.out.size)).mono az.out.size));clear b5;go_wp2_with fail;go_ret;exact ⟨rfl,ee.out⟩
end
end Go.Proofs.YtcilfelgpmfehaaGreat
namespace Go.Proofs.YtcilfelgpmfehaaGreat.K
open Go.RowKit
theorem cY.empty {B0 B:Nat} {w w':World} (hb:Below B0 w w') (hB:B <= w'.heap.size) (h0:B0 <= B):cY B0 B w (w'.alloc (.cells #[] 66)) (some ⟨w'.heap.size,0,none⟩) 0 []:=by
 refine ⟨⟨rfl,Or.inr ⟨w'.heap.size,0,#[],rfl,hB,heap_alloc_new _ _,Nat.le_refl _,Nat.zero_le _,rfl,rfl⟩⟩,hb.alloc (by omega) _,by simp;omega,h0⟩
theorem cY.appRun {B0 B:Nat} {w W:World} {ao:Option Addr} {cap:Nat} {acc:List En} (O:cY B0 B w W ao cap acc) (bo:Option Addr) (m c:Nat) (R:List En) (hR:aF W bo m c R) (n l:Nat) (hn:acc.length=n) (hl:n+m=l) (cP:l <= 3518437208883) :
  ∃ a' c' W',(Builtin.append_ #[22,22] 22 #[.slice ao n cap,.slice bo m c]).run Tryz.prog W = .ok (.slice a' l c') W'/\cY B0 B w W' a' c' (acc++R)/\(∀ q,q < W.heap.size -> (Value.slice ao n cap).ownBlock≠some q -> W'.heap[q]? = W.heap[q]?)/\((Value.slice a' l c').ownBlock=(Value.slice ao n cap).ownBlock∨(Value.slice a' l c').ownBlock=some W.heap.size)/\W.heap.size <= W'.heap.size:=by
 subst hn hl;obtain ⟨i0,hi,dn,dm,ef⟩:=info_parts iu;have hB:=O.hB;have hB0:=O.hB0
 cases bo with
 | none =>
  obtain ⟨rfl,rfl⟩:=hR.2.1 rfl;obtain rfl:R=[]:=List.eq_nil_of_length_eq_zero hR.1;have cO:=run_append_owned_none (P:=Tryz.prog) (w:=W) B 22 22 66 i0 4 Tryz.underlying22 hi _ acc.length (ecs acc) O.own;exact ⟨ao,cap,W,cO,by rw [List.append_nil];exact O,fun _ _ _=>rfl,.inl rfl,Nat.le_refl _⟩
 | some ad =>
  obtain ⟨v',W2,cO,cp,aC,_,fj⟩:=run_append_own_at (P:=Tryz.prog) W B 22 22 66 i0 (.agg #[.int .i64 0,.int .i64 0,.string ⟨#[]⟩,.int .i64 0]) 4 40 Tryz.underlying22 hi dn dm ef rfl (by decide) (.slice ao acc.length cap) acc.length (ecs acc) O.own ad m c (ecs R) (by rw [xC,hR.1]) (fun j u hj=>hR.cells j u hj) (j4 R) (by unfold maxLen;omega) (by omega) hB;have dv:∀ k,(Value.slice ao acc.length cap).ownBlock=some k -> B <= k:=fun k hk=>(O.own.lt k hk).1;have eE:=aC.size;have gV:Below B0 w W2:=O.below.grown aC (by omega) (fun k hk=>by have:=dv k hk;omega);have hm:m=R.length:=hR.1.symm
  have dw:W2.ownsRow B 66 4 v' (acc++R).length (ecs (acc++R)):=by rw [List.length_append,kI,<- hm];exact cp
  rcases cp.2 with ⟨h0,eU⟩ | ⟨g,cap2,cur,hv,r⟩
  ·subst h0;have e0:acc.length+m=0:=eU;rw [e0];refine ⟨none,0,W2,cO,⟨?_,gV,by omega,hB0⟩,fun q hq hn=>aC.block q hq (fun e=>hn e.symm),fj,eE⟩;rw [List.length_append,<- hm,e0] at dw;rw [List.length_append,<- hm,e0];exact dw
  ·subst hv;refine ⟨some ⟨g,0,none⟩,cap2,W2,cO,⟨?_,gV,by omega,hB0⟩,fun q hq hn=>aC.block q hq (fun e=>hn e.symm),fj,eE⟩;rw [List.length_append,<- hm] at dw ⊢;exact dw
end Go.Proofs.YtcilfelgpmfehaaGreat.K
