/- YGh -/
import Derived.Test.YtcilfelgpmfehaaGreatBj39
set_option maxRecDepth 100000
set_option maxHeartbeats 6400000
namespace Go.Proofs.YtcilfelgpmfehaaGreat
open Go.RowKit
attribute [local go_sem ↓] zl zk qX xu
attribute [local go_sem] zw zf zW zh qS qi xW qy
theorem zfs {α : Type} {R : α -> α -> Prop}:∀ {L:List α},L.Pairwise R -> ∀ a∈L,∀ b∈L,a=b∨R a b∨R b a
 | [],_,a,h,_,_=>by cases h
 | x :: t,h,a,ha,b,hb=>by
  obtain ⟨h1,h2⟩:=List.pairwise_cons.1 h;rcases List.mem_cons.1 ha with e1 | k1
  ·rcases List.mem_cons.1 hb with e2 | k2
   ·exact .inl (e1.trans e2.symm)
   ·rw [e1];exact .inr (.inl (h1 _ k2))
  ·rcases List.mem_cons.1 hb with e2 | k2
   ·rw [e2];exact .inr (.inr (h1 _ k1))
   ·exact zfs h2 a k1 b k2
def iv (P:Pst) (L:List Sn) (c:Sn):Prop:=c.hi <= P.vec.getD c.rep.toNat 0∨∃ t∈L,t.rep=c.rep/\t.lo <= c.lo/\c.hi <= t.hi
theorem vW {P:Pst} {y:Nat} (hy:y < 16) {m:Int} (h1:1 <= m) (h2:m <= 1000000000):mem (aa P y) m↔m <= P.vec.getD y 0∨∃ t∈P.cloud,t.rep=(y:Int)/\t.lo <= m/\m <= t.hi:=by
 have h:=qB P ⟨(y:Int),m⟩;unfold cu at h;simp only [Int.toNat_natCast] at h
 have hr:V.isR (y:Int)=true:=by simp [V.isR];omega
 constructor
 ·intro k;obtain ⟨-,-,-,-,q⟩:=h.1 ⟨hr,k⟩;rcases q with q | ⟨t,q1,q2,q3,q4⟩
  ·exact .inl q
  ·exact .inr ⟨t,q1,q2,q3,q4⟩
 ·intro q;refine (h.2 ⟨by omega,by omega,h1,h2,?_⟩).2;rcases q with q | ⟨t,q1,q2,q3,q4⟩
  ·exact .inl q
  ·exact .inr ⟨t,q1,q2,q3,q4⟩
theorem za9 {P:Pst} (h:af P) {c:Sn} (hc:ph c):fe P c↔iv P P.cloud c:=by
 obtain ⟨y,hy,hr,h1,h2,h3⟩:=hc;obtain ⟨rp,lo,hi⟩:=c;dsimp only at hr h1 h2 h3;subst hr;unfold fe iv;simp only [Int.toNat_natCast];have hv:=(ko h).2 y hy
 have lead:∀ t∈P.cloud,t.rep=(y:Int) -> P.vec.getD y 0+2 <= t.lo/\t.lo <= t.hi:=fun t ht e=>by
  obtain ⟨b,hb⟩:=ja _ _ h.2 t ht;have q:=hb.lead;rw [e,za3 _ hy,<- zcu h y hy] at q;exact ⟨q,hb.ord⟩
 constructor
 ·intro k;by_cases c1:hi <= P.vec.getD y 0
  ·exact .inl c1
  ·right
   have c2:P.vec.getD y 0+2 <= lo:=by
    apply Classical.byContradiction;intro c2;have q:=(vW hy (m:=P.vec.getD y 0+1) (by omega) (by omega)).1 (k _ (by omega) (by omega));rcases q with q | ⟨t,q1,q2,q3,q4⟩
    ·omega
    ·have:=lead t q1 q2;omega
   have q:=(vW hy (m:=lo) (by omega) (by omega)).1 (k _ (by omega) (by omega));rcases q with q | ⟨t,q1,q2,q3,q4⟩
   ·omega
   ·refine ⟨t,q1,q2,q3,?_⟩;apply Classical.byContradiction;intro c3;have r:=(vW hy (m:=t.hi+1) (by omega) (by omega)).1 (k _ (by omega) (by omega));rcases r with r | ⟨u,r1,r2,r3,r4⟩
    ·omega
    ·have l1:=lead t q1 q2;have l2:=lead u r1 r2;rcases zfs (bh _ _ h.2).2 t q1 u r1 with e | e | e
     ·subst e;omega
     ·unfold Gp at e;omega
     ·unfold Gp at e;omega
 ·rintro (k | ⟨t,q1,q2,q3,q4⟩) m h4 h5
  ·exact (vW hy (by omega) (by omega)).2 (.inl (by omega))
  ·exact (vW hy (by omega) (by omega)).2 (.inr ⟨t,q1,q2,by omega,by omega⟩)
theorem zgr {A P:Pst} (hA:af A) (hP:af P):wiP A P↔(∀ j,j < A.vec.length -> A.vec.getD j 0 <= P.vec.getD j 0)/\∀ c∈A.cloud,iv P P.cloud c:=by
 have fv:=ko hA;have fp:=ko hP;rw [zfn hA];constructor
 ·rintro ⟨h1,h2⟩;refine ⟨fun j hj=>?_,fun c hc=>(za9 hP (v7 hA c hc)).1 (h2 c hc)⟩;have b1:=fv.2 j (by omega);have b2:=fp.2 j (by omega);by_cases h0:0 < A.vec.getD j 0
  ·rcases (za9 hP ⟨j,by omega,rfl,by show (1:Int) <= 1;omega,by show (1:Int) <= A.vec.getD j 0;omega,b1.2⟩).1 (h1 j hj h0) with q | ⟨t,q1,q2,q3,q4⟩
   ·simpa using q
   ·obtain ⟨b,hb⟩:=ja _ _ hP.2 t q1;have q:=hb.lead;have:=V.zaw P.vec t.rep;simp only at q3;omega
  ·omega
 ·rintro ⟨h1,h2⟩;refine ⟨fun j hj h0=>?_,fun c hc=>(za9 hP (v7 hA c hc)).2 (h2 c hc)⟩;have b1:=fv.2 j (by omega);exact (za9 hP ⟨j,by omega,rfl,by show (1:Int) <= 1;omega,by show (1:Int) <= A.vec.getD j 0;omega,b1.2⟩).2 (.inl (by simpa using h1 j hj))
theorem zaK (p q:Pv) (w:World) (hA:ak w p) (hB:ak w q) (hI:af p.P) (hJ:af q.P):Calls Tryz.prog 40 #[PV p,PV q] w fun e w'=>dr w w' e (wiP p.P q.P):=by
 have b1:=ze w (.cells (PC p) 26);have b2:=ze (w.alloc (.cells (PC p) 26)) (.cells (PC q) 26);have p2:=zq (w.alloc (.cells (PC p) 26)) q;simp only [World.size_alloc] at p2;have gX:=hide ((zq w p).below b2);have dN:=hide p2;have az:=hide (b1.trans (b2.mono b1.size));have eo:=hide (hA.below az.out);have gP:=hide (hB.below az.out);obtain ⟨wk,cq⟩:∃ wk,(w.alloc (.cells (PC p) 26)).alloc (.cells (PC q) 26)=wk:=⟨_,rfl⟩;rw [cq] at gX dN az eo gP;obtain ⟨G,hG⟩:∃ G,w.heap.size=G:=⟨_,rfl⟩;rw [hG] at gX dN;have HN:Hid (∀ W,Below wk.heap.size wk W -> (W.cell? ⟨G,0,none⟩=some (.slice p.vo p.vn p.vc)/\W.cell? ⟨G,1,none⟩=some (.slice p.co p.cn p.cc))/\W.cell? ⟨G+1,0,none⟩=some (.slice q.vo q.vn q.vc)/\W.cell? ⟨G+1,1,none⟩=some (.slice q.co q.cn q.cc)):=fun W h=>⟨(gX.out.below h).nums,(dN.out.below h).nums⟩
 have HW:Hid (wiP p.P q.P↔(∀ j,j < p.P.vec.length -> p.P.vec.getD j 0 <= q.P.vec.getD j 0)/\∀ c∈p.P.cloud,iv q.P q.P.cloud c):=zgr hI hJ;have LL:Hid (∀ c∈p.P.cloud,ph c):=v7 hI;have g1:=hA.big;have g2:=hA.cloud.big;have g3:=hB.cloud.big;have rd:Hid (p.P.vec.length=p.vn/\p.P.cloud.length=p.cn/\q.P.vec.length=q.vn/\q.P.cloud.length=q.cn):=⟨hA.vec.1,hA.cloud.len,hB.vec.1,hB.cloud.len⟩;have mD:Hid (¬ wiP p.P q.P -> ∀ W,Below wk.heap.size wk W -> dr w W (.returned (.bool false)) (wiP p.P q.P)):=fun h W hW=>⟨false,rfl,BIf.no h,az.out.trans (hW.mono az.out.size)⟩;obtain ⟨n0,n1⟩:=(HN.out _ (Below.refl _ _)).1;clear b1 b2 p2 hA hB hI hJ;go_enter Tryz.func40,Tryz.ntmps40;go_wp2_with fail;clear cq hG n0 n1;go_loopw [16] (fun i wr=>∃ k:Nat,k <= p.vn/\i = .int .i64 k/\Hid (∀ j,j < k -> p.P.vec.getD j 0 <= q.P.vec.getD j 0)/\wk=wr) (fun i _=>p.vn - (intOf i).toNat)
 case atStart=>exact ⟨0,Nat.zero_le _,rfl,fun j hj=>absurd hj (by omega),rfl⟩
 case round =>
  obtain ⟨k,hk,rfl,HE,Ce⟩:=hrel;subst Ce;obtain ⟨⟨a0,a1⟩,c0,c1⟩:=HN.out _ (Below.refl _ _);by_cases aq:k < p.vn
  ·obtain ⟨ad,fl,q1⟩:=qT eo.out.vec k aq;rw [fl];obtain ⟨x,Hx⟩:∃ x,Hid (p.P.vec.getD k 0=x):=⟨_,rfl⟩;rw [Hx.out] at q1;obtain ⟨y,Hy⟩:∃ y,Hid (q.P.vec.getD k 0=y):=⟨_,rfl⟩
   have oa:Hid (¬ y < x -> ∀ j,j < k+1 -> p.P.vec.getD j 0 <= q.P.vec.getD j 0):=fun h j hj=>by
    by_cases e:j=k
    ·rw [e,Hx.out,Hy.out];omega
    ·exact HE.out j (by omega)
   have lE:Hid (y < x -> dr w wk (.returned (.bool false)) (wiP p.P q.P)):=fun h=>mD.out (fun hw=>by
    have:=(HW.out.1 hw).1 k (by rw [rd.out.1];exact aq);rw [Hx.out,Hy.out] at this
    omega) _ (Below.refl _ _)
   by_cases h2:k < q.vn
   ·obtain ⟨bd,o5,q2⟩:=qT gP.out.vec k h2;rw [Hy.out] at q2;rw [o5] at c0;have rj:decide ((k:Int) < (q.vn:Int))=true:=decide_eq_true (by omega);by_cases h3:y < x
    ·have Bx:decide (y < x)=true:=decide_eq_true h3;have HF:=hide (lE.out h3);clear h3 fl o5;go_wp2_with fail;go_ret;exact HF.out
    ·have Bx:decide (y < x)=false:=decide_eq_false h3;have HF:=hide (oa.out h3);clear h3 fl o5;go_wp2_with fail;go_roundw
     case rel=>exact ⟨k+1,by omega,by go_num,HF.out,by first | trivial | rfl⟩
     case measure=>simp [intOf];omega
   ·have rj:decide ((k:Int) < (q.vn:Int))=false:=decide_eq_false (by omega)
    obtain rfl:y=0:=by rw [<- Hy.out];exact qh (by rw [rd.out.2.2.1];exact h2)
    by_cases h3:0 < x
    ·have Bx:decide (0 < x)=true:=decide_eq_true h3;have HF:=hide (lE.out h3);clear h3 fl;go_wp2_with fail;go_ret;exact HF.out
    ·have Bx:decide (0 < x)=false:=decide_eq_false h3;have HF:=hide (oa.out h3);clear h3 fl;go_wp2_with fail;go_roundw
     case rel=>exact ⟨k+1,by omega,by go_num,HF.out,by first | trivial | rfl⟩
     case measure=>simp [intOf];omega
  ·have HV:Hid (∀ j,j < p.P.vec.length -> p.P.vec.getD j 0 <= q.P.vec.getD j 0):=fun j hj=>HE.out j (by have:=rd.out.1;omega)
   have D9:¬ (k:Int) < (p.vn:Int):=by omega
   clear HE;go_wp2_with fail;clear a0 a1 c0 c1;go_loopw [38] (fun i wr=>∃ j:Nat,j <= p.cn/\i = .int .i64 j/\Hid ((∀ c∈p.P.cloud.take j,iv q.P q.P.cloud c)/\Below wk.heap.size wk wr)) (fun i _=>p.cn - (intOf i).toNat)
   case atStart=>exact ⟨0,Nat.zero_le _,rfl,fun c hc=>(by cases hc),Below.refl _ _⟩
   case round =>
    obtain ⟨j,hj,rfl,HI⟩:=hrel
    rename World=>w6
    by_cases aq:j < p.cn
    ·obtain ⟨ad,hco,A0⟩:=(eo.out.cloud.below HI.out.2).at j aq;rw [hco];obtain ⟨c,Hc⟩:∃ c,Hid (p.P.cloud.getD j sn0=c):=⟨_,rfl⟩;rw [Hc.out] at A0;have dz:=zS A0;have HT:=hide (x6 p.P.cloud j (by rw [rd.out.2.1];exact aq));rw [Hc.out] at HT;have lO:Hid (c∈p.P.cloud):=List.mem_of_mem_take (i:=j+1) (by rw [HT.out];exact List.mem_append_right _ (List.mem_cons_self));obtain ⟨y,hy,hr,o1,o2,o3⟩:=LL.out c lO.out;obtain ⟨g,hg⟩:∃ g,w6.heap.size=g:=⟨_,rfl⟩;obtain ⟨w7,cr,X7,b7,z7⟩:=fI w6 c g hg;have mn:=hide X7;have cM:=hide (HI.out.2.trans (b7.mono HI.out.2.size));have cj:=hide aq;obtain ⟨rp,lo,hi⟩:=c;dsimp only at hr o1 o2 o3;subst hr;have aw:Hid (∀ W,Below w7.heap.size w7 W -> ((W.cell? ⟨g,0,none⟩=some (.int .i64 (y:Int))/\W.cell? ⟨g,1,none⟩=some (.int .i64 lo))/\W.cell? ⟨g,2,none⟩=some (.int .i64 hi))/\W.cell? ⟨G+1,0,none⟩=some (.slice q.vo q.vn q.vc)):=fun W hW=>⟨⟨⟨(mn.out.below hW).at.1,(mn.out.below hW).at.2.1⟩,(mn.out.below hW).at.2.2⟩,(HN.out _ (cM.out.trans (hW.mono cM.out.size))).2.1⟩
     have Hy:=hide hy;have HO:Hid (1 <= lo/\lo <= hi):=⟨o1,o2⟩
     have p5:(j:Int) < (p.cn:Int):=by omega
     clear A0 X7 b7 z7 hco o1 o2 o3;go_upto_region 13 with fail;clear dz cr p5 aq
     go_cut [10] from 42 to 58 (fun v W=>∃ hb:Bool,v = .bool hb/\Hid (hb=decide (hi <= q.P.vec.getD y 0)/\Below w7.heap.size w7 W))
     case first =>
      as_aux_lemma =>
       by_cases h7:y < q.vn
       ·have tR:(y:Int) < (q.vn:Int):=by omega
        have Db:decide ((y:Int) < (q.vn:Int))=true:=decide_eq_true tR;obtain ⟨bd,o5,q2⟩:=qT (gP.out.vec.below cM.out) y h7;obtain ⟨tv,AB⟩:∃ tv,Hid (q.P.vec.getD y 0=tv):=⟨_,rfl⟩;rw [AB.out] at q2;have q3:(w7.drew).cell? (bd.add y)=some (.int .i64 tv):=((zd w7).cell (World.block_lt_of_cell? _ _ q2)).trans q2;by_cases k1:hi <= tv
        ·have E7:decide (hi <= tv)=true:=decide_eq_true k1
         have dA:Hid (true=decide (hi <= q.P.vec.getD y 0)):=by show _=_;rw [AB.out,E7]
         refine wp_region_held_drew (S:=fun W=>(((W.cell? ⟨g,0,none⟩=some (.int .i64 (y:Int))/\W.cell? ⟨g,1,none⟩=some (.int .i64 lo))/\W.cell? ⟨g,2,none⟩=some (.int .i64 hi))/\W.cell? ⟨G+1,0,none⟩=some (.slice (some bd) q.vn q.vc))/\W.cell? (bd.add y)=some (.int .i64 tv)) (by kernel_rfl) (⟨by have h:=aw.out _ (zd w7);rw [o5] at h;exact h,q3⟩) (fun hHeld=>?_);refine wU 0 ?_;refine wU 1 ?_;refine wU 2 ?_;refine wU 3 ?_;refine wU 4 ?_;refine wU 5 ?_;refine wU 6 ?_;refine wU 7 ?_;refine wU 8 ?_;refine wU 9 ?_;refine wU 10 ?_;refine wU 11 ?_;refine wU 12 ?_;refine wU 13 ?_;refine wU 14 ?_;refine wU 15 ?_;refine wU 16 ?_;refine wU 17 ?_;refine wD ?_ _;clear hHeld;go_wp2_with fail;go_meet;exact ⟨true,rfl,dA.out,zd w7⟩
        ·have E7:decide (hi <= tv)=false:=decide_eq_false k1
         have dA:Hid (false=decide (hi <= q.P.vec.getD y 0)):=by show _=_;rw [AB.out,E7]
         refine wp_region_held_drew (S:=fun W=>(((W.cell? ⟨g,0,none⟩=some (.int .i64 (y:Int))/\W.cell? ⟨g,1,none⟩=some (.int .i64 lo))/\W.cell? ⟨g,2,none⟩=some (.int .i64 hi))/\W.cell? ⟨G+1,0,none⟩=some (.slice (some bd) q.vn q.vc))/\W.cell? (bd.add y)=some (.int .i64 tv)) (by kernel_rfl) (⟨by have h:=aw.out _ (zd w7);rw [o5] at h;exact h,q3⟩) (fun hHeld=>?_);refine wU 0 ?_;refine wU 1 ?_;refine wU 2 ?_;refine wU 3 ?_;refine wU 4 ?_;refine wU 5 ?_;refine wU 6 ?_;refine wU 7 ?_;refine wU 8 ?_;refine wU 9 ?_;refine wU 10 ?_;refine wU 11 ?_;refine wU 12 ?_;refine wU 13 ?_;refine wU 14 ?_;refine wU 15 ?_;refine wU 16 ?_;refine wU 17 ?_;refine wD ?_ _;clear hHeld;go_wp2_with fail;go_meet;exact ⟨false,rfl,dA.out,zd w7⟩
       ·have tR:¬ (y:Int) < (q.vn:Int):=by omega
        have Db:decide ((y:Int) < (q.vn:Int))=false:=decide_eq_false tR
        have dA:Hid (false=decide (hi <= q.P.vec.getD y 0)):=by show _=_;rw [qh (by rw [rd.out.2.2.1];exact h7)];have:=HO.out;exact (decide_eq_false (by omega)).symm
        refine wp_region_held_drew (S:=fun W=>(((W.cell? ⟨g,0,none⟩=some (.int .i64 (y:Int))/\W.cell? ⟨g,1,none⟩=some (.int .i64 lo))/\W.cell? ⟨g,2,none⟩=some (.int .i64 hi))/\W.cell? ⟨G+1,0,none⟩=some (.slice q.vo q.vn q.vc))) (by kernel_rfl) (aw.out _ (zd w7)) (fun hHeld=>?_);refine wU 0 ?_;refine wU 1 ?_;refine wU 2 ?_;refine wU 3 ?_;refine wU 4 ?_;refine wU 5 ?_;refine wU 6 ?_;refine wV 7 ?_;refine wV 8 ?_;refine wV 9 ?_;refine wV 10 ?_;refine wV 11 ?_;refine wV 12 ?_;refine wV 13 ?_;refine wV 14 ?_;refine wV 15 ?_;refine wU 16 ?_;refine wU 17 ?_;refine wD ?_ _;clear hHeld;go_wp2_with fail;go_meet;exact ⟨false,rfl,dA.out,zd w7⟩
     case rest =>
     obtain ⟨hb,rfl,HC⟩:=hcut;have c9:=(HN.out _ (cM.out.trans (HC.out.2.mono cM.out.size))).2.2;go_wp2_with fail;clear c9;go_loopw [10,62] (fun v i wr=>∃ (m:Nat) (hb:Bool),m <= q.cn/\v = .bool hb/\i = .int .i64 m/\Hid ((hb=true↔iv q.P (q.P.cloud.take m) ⟨(y:Int),lo,hi⟩)/\Below w7.heap.size w7 wr)) (fun _ i _=>q.cn - (intOf i).toNat)
     case atStart=>exact ⟨0,hb,Nat.zero_le _,rfl,rfl,by rw [HC.out.1];unfold iv;simp,HC.out.2⟩
     case round =>
      obtain ⟨m,mp,hm,rfl,rfl,HJ⟩:=hrel
      rename World=>w8
      by_cases hlm:m < q.cn
      ·obtain ⟨bd,o5,B0⟩:=(gP.out.cloud.below (cM.out.trans (HJ.out.2.mono cM.out.size))).at m hlm;rw [o5];obtain ⟨t,Ht⟩:∃ t,Hid (q.P.cloud.getD m sn0=t):=⟨_,rfl⟩;rw [Ht.out] at B0;have dz:=zS B0;have i8:=hide (x6 q.P.cloud m (by rw [rd.out.2.2.2];exact hlm));rw [Ht.out] at i8;obtain ⟨g2,gO⟩:∃ g,w8.heap.size=g:=⟨_,rfl⟩;obtain ⟨w9,cr,X9,b9,z9⟩:=fI w8 t g2 gO;have eN:=hide (HJ.out.2.trans (b9.mono HJ.out.2.size));obtain ⟨⟨⟨s0,s1⟩,s2⟩,-⟩:=aw.out _ eN.out
       obtain ⟨t0,t1,t2⟩:=X9.at
       have nj:Hid (∀ b:Bool,(b=true↔(mp=true∨(t.rep=(y:Int)/\t.lo <= lo/\hi <= t.hi))) -> (b=true↔iv q.P (q.P.cloud.take (m+1)) ⟨(y:Int),lo,hi⟩)):=fun b h=>by
        rw [h,HJ.out.1,i8.out];unfold iv;simp only [List.mem_append,List.mem_singleton,or_assoc];constructor
        ·rintro (k | ⟨u,h1,h2⟩ | h3)
         ·exact .inl k
         ·exact .inr ⟨u,.inl h1,h2⟩
         ·exact .inr ⟨t,.inr rfl,h3⟩
        ·rintro (k | ⟨u,h1 | rfl,h2⟩)
         ·exact .inl k
         ·exact .inr (.inl ⟨u,h1,h2⟩)
         ·exact .inr (.inr h2)
       have p8:=hide hlm;clear B0 X9 b9 z9 hlm o5 i8;obtain ⟨tr,tl,th⟩:=t;dsimp only at t0 t1 t2 dz nj
       cases mp with
       | true =>
        have HR:=hide (nj.out true (by simp));go_wp2_with fail;go_roundw
        case rel=>exact ⟨m+1,true,p8.out,rfl,by go_num,HR.out,eN.out⟩
        case measure=>simp [intOf];have:=p8.out;omega
       | false =>
        by_cases e1:tr=(y:Int)
        ·have e1b:(tr == (y:Int))=true:=by simpa using e1
         by_cases e2:tl <= lo
         ·have e2b:decide (tl <= lo)=true:=decide_eq_true e2;by_cases e3:hi <= th
          ·have e3b:decide (hi <= th)=true:=decide_eq_true e3;have HR:=hide (nj.out true (by simp only [true_iff];exact .inr ⟨e1,e2,e3⟩));clear e1;go_wp2_with fail;go_roundw
           case rel=>exact ⟨m+1,true,p8.out,rfl,by go_num,HR.out,eN.out⟩
           case measure=>simp [intOf];have:=p8.out;omega
          ·have e3b:decide (hi <= th)=false:=decide_eq_false e3;have HR:=hide (nj.out false (by simp only [Bool.false_eq_true,false_iff,false_or];exact fun h=>e3 h.2.2));clear e1;go_wp2_with fail;go_roundw
           case rel=>exact ⟨m+1,false,p8.out,rfl,by go_num,HR.out,eN.out⟩
           case measure=>simp [intOf];have:=p8.out;omega
         ·have e2b:decide (tl <= lo)=false:=decide_eq_false e2;have HR:=hide (nj.out false (by simp only [Bool.false_eq_true,false_iff,false_or];exact fun h=>e2 h.2.1));clear e1;go_wp2_with fail;go_roundw
          case rel=>exact ⟨m+1,false,p8.out,rfl,by go_num,HR.out,eN.out⟩
          case measure=>simp [intOf];have:=p8.out;omega
        ·have e1b:(tr == (y:Int))=false:=by simpa using e1
         have HR:=hide (nj.out false (by simp only [Bool.false_eq_true,false_iff,false_or];exact fun h=>e1 h.1));clear e1;go_wp2_with fail;go_roundw
         case rel=>exact ⟨m+1,false,p8.out,rfl,by go_num,HR.out,eN.out⟩
         case measure=>simp [intOf];have:=p8.out;omega
      ·have BR:Hid (mp=true↔iv q.P q.P.cloud ⟨(y:Int),lo,hi⟩):=by
        have h:=HJ.out.1;rw [List.take_of_length_le (by have:=rd.out;omega)] at h;exact h
       have NQ:¬ (m:Int) < (q.cn:Int):=by omega
       have J9:=wTr cM HJ.out.2
       cases mp with
       | true =>
        have HR:Hid (∀ c∈p.P.cloud.take (j+1),iv q.P q.P.cloud c):=fun c hc=>by
         rw [HT.out] at hc;rcases List.mem_append.1 hc with h | h
         ·exact HI.out.1 c h
         ·rw [List.mem_singleton.1 h];exact BR.out.1 rfl
        go_wp2_with fail;go_roundw
        case rel=>exact ⟨j+1,cj.out,by go_num,HR.out,J9.out⟩
        case measure=>simp [intOf];have:=cj.out;omega
       | false =>
        have HF:=hide (mD.out (fun hw=>by have:=BR.out.2 ((HW.out.1 hw).2 _ lO.out);cases this) _ J9.out);go_wp2_with fail;go_ret;exact HF.out
    ·have HR:Hid (dr w w6 (.returned (.bool true)) (wiP p.P q.P)):=⟨true,rfl,BIf.yes (HW.out.2 ⟨HV.out,by
      have h:=HI.out.1;rw [List.take_of_length_le (by have:=rd.out;omega)] at h
      exact h⟩),az.out.trans (HI.out.2.mono az.out.size)⟩
     have p5:¬ (j:Int) < (p.cn:Int):=by omega
     go_wp2_with fail;go_ret;exact HR.out
end Go.Proofs.YtcilfelgpmfehaaGreat
