/- QFo -/
import Derived.Test.YtjffpimfngdggaaGreatFf05
import Derived.Deep.RegionHeldLaw
set_option maxRecDepth 100000
set_option maxHeartbeats 4000000
namespace Go.Proofs.YtjffpimfngdggaaGreat
open Go.RowKit
attribute [local go_sem ↓] x9 jv kW kH zq zp V.yw
attribute [local go_sem] xH qY xV qD ky xf zaZ zI zi qq zk
theorem zjT (s:Sn):(SC s=#[])=False:=by simp [SC]
theorem zjx (e:Sn):Array.foldl (fun cs x=>cs.setIfInBounds x.snd x.fst) #[(SC sn0)[0]!,(SC sn0)[1]!,(SC sn0)[2]!] (SC e).zipIdx 0 3=SC e:=rfl
attribute [local go_sem] zjT zjx
theorem kw {w:World} {g:Nat} {p:Pv} (h:av w g p) (t:Nat):w.frozen? ⟨g,t,none⟩=false:=by unfold av at h;simp [World.frozen?,h]
theorem fh.step {B0 B:Nat} {w w':World} {ao:Option Addr} {cap:Nat} {acc:List Sn} (O:fh B0 B w w' ao cap acc) (e:Sn) (C:Array Value) (hC:C=SC e) (cJ:acc.length < 5864062014805)
  {ops:Array Oper} {o:Oper} {a:Act} {K:Act -> World -> Prop} {Q:Exit -> Act -> World -> Prop} {E:Prop} (hgd:o.guard=none) (s x:Operand) (ho:o.op = .call { callee:=.builtin .append,args:=#[s,x],argTypes:=#[24,24] })
  (n:Nat) (hn:acc.length=n) (hs:a.eval s = .slice ao n cap) (g0:Nat) (hg0:w'.heap.size=g0) (hx:a.eval x = .slice (some ⟨g0,0,none⟩) 1 1)
  (hK:∀ (g cap2:Nat) (w2:World),fh B0 B w w2 (some ⟨g,0,none⟩) cap2 (acc++[e]) -> (∀ k,k < w'.heap.size -> (Value.slice ao acc.length cap).ownBlock≠some k -> w2.heap[k]? = w'.heap[k]?) -> K (a.put o.dst (.slice (some ⟨g,0,none⟩) (n+1) cap2)) w2) :
  if Region.wanted o (yielded ops a.tmps)=true then Oper.wp Tryz.prog o a (w'.alloc (.cells C 104)).drew K Q else E:=by
 have hw:Region.wanted o (yielded ops a.tmps)=true:=by simp [Region.wanted,hgd]
 rw [if_pos hw];subst hC hg0 hn;obtain ⟨i0,hi,cY,dw,eI⟩:=info_parts sV;have O1:=(O.later (ze w' (.cells (SC e) 104))).later (zf _)
 have hz:(w'.alloc (.cells (SC e) 104)).drew.heap.size=w'.heap.size+1:=by show (w'.alloc _).heap.size=_;simp
 obtain ⟨v',w2,dM,a7,aC,_,gS⟩:=run_append_own_at (P:=Tryz.prog) (w'.alloc (.cells (SC e) 104)).drew B 24 o.type 104 i0 (.agg #[.int .i64 0,.int .i64 0,.int .i64 0]) 3 24 Tryz.underlying24 hi cY dw eI rfl (by decide) (.slice ao acc.length cap) acc.length (scs acc) O1.own ⟨w'.heap.size,0,none⟩ 1 1 (SC e).toList (by simp [SC])
  (fun j u hj=>by
   rw [Addr.add_lit,Nat.zero_add]
   show (w'.alloc _).cell? _=_
   rw [World.cell?_alloc_new]
   simpa using hj)
  (fun u hu=>zf8 e u hu) (by unfold maxLen;omega) (by omega) O1.hB
 rcases a7.2 with ⟨h0,fV⟩ | ⟨g,cap2,cur,hv,r⟩
 ·omega
 ·subst hv;have hB:=O.hB;have hB0:=O.hB0;have dH:∀ k,(Value.slice ao acc.length cap).ownBlock=some k -> B <= k:=fun k hk=>(O.own.lt k hk).1;have dE:=aC.size;rw [hz] at dE;unfold Oper.wp;simp [execOp,ho,resolve,invoke,builtin,hs,hx,dM,Result.andThen];refine hK g cap2 w2 ⟨?_,O1.below.grown aC (by rw [hz];omega) (fun k hk=>by have:=dH k hk;omega),by omega,hB0⟩ (fun k hk cr=>?_)
  ·rw [List.length_append,y9,zeF];exact a7
  ·rw [aC.block k (by rw [hz];omega) (fun e=>cr e.symm)];exact Below.heap_alloc _ _ _ hk
theorem uR:madeCells #[Value.int .i64 0] (16 * 1)=V16 (fun _=>0):=by
 apply Array.ext
 ·simp [madeCells,V16]
 ·intro i h1 h2;simp [madeCells,V16,Nat.mod_one]
theorem zgw (w:World):(V.rj (.int .i64 16) (.int .i64 16)).run Tryz.prog w = .ok (.slice (some ⟨w.heap.size,0,none⟩) 16 16) (w.alloc (.cells (V16 fun _=>0) 3)):=by
 obtain ⟨i0,hi,cY,dw,eI⟩:=info_parts nr;have h:=run_make (P:=Tryz.prog) w 23 3 i0 (.int .i64 0) Tryz.underlying23 hi cY .i64 .i64 16 16 (by omega) (by omega) (by rw [eI];omega) (by omega);rw [dw,show Int.toNat 16=16 from rfl,show (Value.int .i64 0).cells=#[Value.int .i64 0] from rfl,uR] at h;exact h
theorem FoI.start (w:World) (T:Nat -> Si) (N:Nat -> List Rn):FoI w ((((w.alloc (.cells (JA T) 141)).alloc (.cells (PC pv0) 26)).alloc (.cells (PC pv0) 26)).alloc (.cells (V16 fun _=>0) 3)) T (vfn N 0 0) none 0 0 (aJ N 0):=by
 have b1:=ze w (.cells (JA T) 141);have b2:=ze (w.alloc (.cells (JA T) 141)) (.cells (PC pv0) 26);have b3:=ze ((w.alloc (.cells (JA T) 141)).alloc (.cells (PC pv0) 26)) (.cells (PC pv0) 26);have b4:=ze (((w.alloc (.cells (JA T) 141)).alloc (.cells (PC pv0) 26)).alloc (.cells (PC pv0) 26)) (.cells (V16 fun _=>0) 3);have i1:=((qG w 141 T).below b2).below b3 |>.below b4;have i2:=((zm (w.alloc (.cells (JA T) 141)) pv0).below b3).below b4;have i3:=(zm ((w.alloc (.cells (JA T) 141)).alloc (.cells (PC pv0) 26)) pv0).below b4;simp only [World.size_alloc] at i1 i2 i3;have bl:=b1.trans ((b2.mono b1.size).trans ((b3.mono (b1.trans (b2.mono b1.size)).size).trans (b4.mono (b1.trans ((b2.mono b1.size).trans (b3.mono (b1.trans (b2.mono b1.size)).size))).size)));refine ⟨i1,i2,i3,?_,fh.nil bl (by simp) (by omega),rfl⟩;have h4:=heap_alloc_new (((w.alloc (.cells (JA T) 141)).alloc (.cells (PC pv0) 26)).alloc (.cells (PC pv0) 26)) (.cells (V16 fun _=>0) 3)
 simp only [World.size_alloc] at h4;rw [h4,zf7 (f:=vfn N 0 0) (g:=fun _=>0) (fun q=>by unfold vfn;rw [if_neg (by omega)];split <;> simp [au])]
theorem FoI.fin {w W:World} {T:Nat -> Si} {N:Nat -> List Rn} {co:Option Addr} {cn cc:Nat} (I:FoI w W T (vfn N 16 0) co cn cc (aJ N 16)) (hN:∀ r,r < 16 -> form 1 (N r)) {nn:Nat} (hn:nn=V.dN (fun q=>au (N q)) 16) (v:Value) (hv:v = .slice (some ⟨w.heap.size+1+1+1,0,none⟩) nn 16) :
  ∃ pv:Pv,pv.P=dW N/\av (W.setCell ⟨w.heap.size+1+1,0,none⟩ v) (w.heap.size+1+1) pv/\av (W.setCell ⟨w.heap.size+1+1,0,none⟩ v) (w.heap.size+1) pv0/\am (W.setCell ⟨w.heap.size+1+1,0,none⟩ v) pv/\dA (w.heap.size+1+1) pv/\Below w.heap.size w (W.setCell ⟨w.heap.size+1+1,0,none⟩ v):=by
 subst hv hn;have iV:=V.zew (fun q=>au (N q)) 16;have fT:=xU (N:=N) 16 hN;obtain ⟨s1,s2⟩:=I.o.src (by omega);have hs:∀ {q:Nat},q≠w.heap.size+1+1 -> (W.setCell ⟨w.heap.size+1+1,0,none⟩ (.slice (some ⟨w.heap.size+1+1+1,0,none⟩) (V.dN (fun q=>au (N q)) 16) 16)).heap[q]? = W.heap[q]?:=fun h=>zw h;refine ⟨⟨some ⟨w.heap.size+1+1+1,0,none⟩,V.dN (fun q=>au (N q)) 16,16,co,cn,cc,dW N⟩,rfl,?_,(hs (by omega)).trans I.z,⟨?_,?_,Nat.le_trans iV (by omega)⟩,⟨fun ad h=>?_,fun ad h=>?_⟩,V.qd I.o.below (by show _ <= w.heap.size+1+1;omega)⟩
 ·have h:=I.p;unfold av at h ⊢;simp [World.setCell,h,Array.getElem?_modify,PC]
 ·refine ⟨V.zV _,fun h=>(by cases h),fun ad h k hk=>?_⟩;obtain rfl:=Option.some.inj h;rw [Addr.add_lit,Nat.zero_add,World.cell?_of_block (hs (by show w.heap.size+1+1+1≠_;omega)),cell_of_row W _ k _ _ _ I.v];have lI:k < V.dN (fun q=>au (N q)) 16:=hk
  have u6:k < 16:=by omega
  have e1:(V16 (vfn N 16 0))[k]? = some (.int .i64 (au (N k))):=by simp [V16,u6,vfn]
  have e2:(dW N).vec.getD k 0=au (N k):=by
   show (V.aR _).getD k 0=_
   simp [V.aR,V.top,List.getD,lI]
  rw [e1,e2]
 ·rw [I.l] at s1;exact s1.off (fun ad h=>hs (by have:=s2 ad h;omega))
 ·obtain rfl:=Option.some.inj h
  show w.heap.size+1+1 <= w.heap.size+1+1+1
  omega
 ·have:=s2 ad h;omega
theorem ks (T:Nat -> Si) (N:Nat -> List Rn) (w:World) (hS:∀ r,r < 16 -> V.Src w (T r).ao (T r).n (T r).cap (tn (N r))/\form 1 (N r)) :
  Calls Tryz.prog 119 #[JAv T] w fun e w'=>ct w w' e (fun P=>P=dW N):=by
 have HS:=hide hS;clear hS;have ui:=hide (FoI.start w T N);have Ie:=zgw (((w.alloc (.cells (JA T) 141)).alloc (.cells (PC pv0) 26)).alloc (.cells (PC pv0) 26));go_enter Tryz.func119,Tryz.ntmps119;go_wp2_with fail;clear Ie;go_loopw [5,6] (fun vn vr wr=>∃ (y nn:Nat) (co:Option Addr) (cn cc:Nat),y <= 16/\nn <= 16/\vn = .int .i64 nn/\vr = .int .i64 y/\Hid (nn=V.dN (fun q=>au (N q)) y)/\Hid (FoI w wr T (vfn N y 0) co cn cc (aJ N y))) (fun _ i _=>16 - (intOf i).toNat)
 case atStart=>exact ⟨0,0,none,0,0,Nat.zero_le _,Nat.zero_le _,rfl,rfl,rfl,ui⟩
 case round =>
  obtain ⟨y,nn,co,cn,cc,tX,u4,rfl,rfl,rx,HI⟩:=hrel
  rename World=>w3
  clear ui
  have y0:(0:Int) <= (y:Int):=by omega
  by_cases hy:y < 16
  ·have y1:(y:Int) < 16:=by omega
   have HF:=hide (HS.out y hy).2;have m9:=hide (HS.out y hy).1;obtain ⟨sa,sn,sc,hf⟩:∃ sa sn sc,(T y).ao=sa/\(T y).n=sn/\(T y).cap=sc:=⟨_,_,_,rfl,rfl,rfl⟩;rw [hf.1,hf.2.1,hf.2.2] at m9;have BB:=hide hf;clear hf
   have BP:Hid (sn=2 * (N y).length):=by have:=m9.1;rw [jt] at this;show _=_;omega
   have Bj:=qT (Int.le_refl _) HF.out
   have tp:sn <= 1000000002:=by have:=BP.out;omega
   have nV:Hid (FoI w w3 T (vfn N y 0) co cn cc (vcl N y 0)):=by have:=HI.out;rw [<- zgm] at this;exact this
   have FD:Hid (nn=lP N y 0):=by show _=_;rw [zes];exact rx.out
   clear HI rx;go_wp2_with fail;go_loopw [5,7] (fun vn vk wr=>∃ (t kk nn:Nat) (co:Option Addr) (cn cc:Nat),t <= (N y).length/\kk=2 * t/\nn <= 16/\vn = .int .i64 nn/\vk = .int .i64 kk/\Hid (nn=lP N y t)/\Hid (FoI w wr T (vfn N y t) co cn cc (vcl N y t))) (fun _ i _=>sn - (intOf i).toNat)
   case atStart=>exact ⟨0,0,nn,co,cn,cc,Nat.zero_le _,rfl,u4,rfl,rfl,FD,nV⟩
   case round =>
    obtain ⟨t,kk,nn,co,cn,cc,ht,oC,u4,rfl,rfl,rx,HI⟩:=hrel
    rename World=>w6
    have pU:=hide oC;clear nV FD oC;have c0:=HI.a.cell y hy;rw [BB.1,BB.2.1,BB.2.2] at c0;by_cases ak:t < (N y).length
    ·have iU:kk+1 < sn:=by have:=pU.out;have:=BP.out;omega
     have gL:kk < sn:=by omega
     obtain ⟨da,mT,qa⟩:=qy m9.out kk (by omega);obtain ⟨db,mK,qb⟩:=qy m9.out (kk+1) iU;have uh:db=da:=Option.some.inj (mK.symm.trans mT);rw [uh] at qb;clear mK uh;subst mT;obtain ⟨tl1,tl2⟩:=zio (N y) t ak;rw [<- pU.out] at tl1 tl2;rw [tl1] at qa;rw [tl2] at qb;clear tl1 tl2;have Di:=zaK HF.out t ak;obtain ⟨x,Hx⟩:∃ x,Hid ((N y).getD t rn0=x):=⟨_,rfl⟩;rw [Hx.out] at qa qb Di;obtain ⟨lo,uj⟩:∃ lo,x.lo=lo:=⟨_,rfl⟩;obtain ⟨h1,Ej⟩:∃ h1,x.hi+1=h1:=⟨_,rfl⟩;rw [uj] at qa;rw [Ej] at qb
     have As:x.hi=h1 - 1:=by omega
     rw [uj,As] at Di;have AQ:=hide (And.intro uj As);clear uj Ej As db;obtain ⟨k1,lK⟩:∃ k1:Nat,kk+1=k1:=⟨_,rfl⟩;rw [lK] at qb iU;have tN:=hide lK
     have Kr:IntKind.i64.wrap ((kk:Int)+1)=(k1:Int):=by rw [IntKind.wrap_i64];omega
     clear lK
     have Kl:Hid (∀ W':World,(∀ q,q <= w.heap.size -> W'.heap[q]? = w6.heap[q]?) -> W'.cell? ⟨w.heap.size,y,none⟩=some (.slice (some da) sn sc)/\W'.cell? (da.add kk)=some (.int .i64 lo)/\W'.cell? (da.add k1)=some (.int .i64 h1)):=fun W' h=>by
      have la:=World.block_lt_of_cell? _ _ qa;have lb:=World.block_lt_of_cell? _ _ qb;exact ⟨(World.cell?_of_block (h _ (Nat.le_refl _))).trans c0,(World.cell?_of_block (h _ (Nat.le_of_lt la))).trans ((HI.o.below.cell la).trans qa),(World.cell?_of_block (h _ (Nat.le_of_lt lb))).trans ((HI.o.below.cell lb).trans qb)⟩
     obtain ⟨_,q1,q2⟩:=Kl.out w6 (fun _ _=>rfl);clear qa qb
     have Bw:IntKind.i64.wrap (h1 - 1)=h1 - 1:=by rw [IntKind.wrap_i64];omega
     by_cases he:lo=1
     ·subst he;have BC:=hide (zfj HF.out t ak (by rw [Hx.out];exact AQ.1));have Ns:=hide (zgj (N:=N) HF.out ak (by rw [Hx.out];exact AQ.1));have v1:=(cell_of_row w6 _ y _ _ _ HI.v).trans (show (V16 (vfn N y t))[y]? = some (.int .i64 (vfn N y t y)) by simp [V16,hy]);have v2:=frozen_of_row w6 _ y _ _ HI.v;have HP:=hide (HI.vset y (h1 - 1));go_wp2_with fail;clear v1 v2;go_roundw
      case rel=>exact ⟨t+1,kk+2,y+1,co,cn,cc,by omega,by have:=pU.out;omega,by omega,by go_num,by go_num,by show _=_;rw [lP,BC.2.1,if_neg (by have:=BC.2.2.2;omega)],HP.congr (fun q=>by rw [Ns.out q,Hx.out,AQ.2]) (by unfold vcl;rw [BC.2.2.1])⟩
      case measure=>(have:=tN.out;simp [intOf];omega)
     ·have nX:(lo == 1)=false:=by simp [he]
      have Ic:=zeT (R:=N y) t ak (by rw [Hx.out,AQ.1];exact he);have C6:Hid (lP N y (t+1)=lP N y t/\(∀ q,vfn N y t q=vfn N y (t+1) q)/\vcl N y t++[⟨(y:Int),lo,h1 - 1⟩]=vcl N y (t+1)):=⟨by unfold lP;rw [Ic.1],fun q=>(zgi ak (by rw [Hx.out,AQ.1];exact he) q).symm,by unfold vcl;rw [Ic.2,zgo,Hx.out,AQ.1,AQ.2,List.append_assoc]⟩;have Bk:=hide HI.l
      have fI:Hid ((vcl N y t).length < 5864062014805):=by
       show _ < _
       have h1:=xU (N:=N) y (fun r hr=>(HS.out r (by omega)).2);have h2:=vI ((N y).take t);rw [List.length_take] at h2;unfold vcl;rw [List.length_append,ke];omega
      have cG:=Kl
      have ix:Hid (∀ q,q <= w.heap.size -> q < w6.heap.size):=fun q hq=>by have:=HI.o.hB;omega
      have c1:=HI.p.nums.2;have c1n:=((ze w6 (.cells (SC ⟨(y:Int),lo,h1 - 1⟩) 104)).cell (World.block_lt_of_cell? _ _ c1)).trans c1;have c1d:=((ze w6.drew (.cells (SC ⟨(y:Int),lo,h1 - 1⟩) 104)).cell (World.block_lt_of_cell? w6 _ c1)).trans c1;clear Ic;go_wp2_with fail;clear q1 q2 c0;refine wp_region_held_drew (S:=fun W=>W.cell? ⟨w.heap.size,y,none⟩=some (.slice (some da) sn sc)/\W.cell? (da.add kk)=some (.int .i64 lo)/\W.cell? (da.add k1)=some (.int .i64 h1)) (by kernel_rfl) (cG.out _ (fun q _=>rfl)) (fun hHeld=>?_);refine wU 0 ?_;refine wU 2 ?_;refine wU 3 ?_;refine wU 4 ?_;refine wU 5 ?_;refine wU 6 ?_;refine wU 7 ?_;refine wU 8 ?_;refine wU 9 ?_;refine wU 10 ?_;refine wU 11 ?_;refine wU 12 ?_;refine wU 13 ?_;refine wU 14 ?_;refine wU 15 ?_;refine wU 16 ?_;refine wU 17 ?_;refine wU 18 ?_;refine wU 19 ?_;refine wpAnyH_ready (rs:=[1,20]) (by kernel_rfl) (by simp) ?_
      refine AllReadyH.cons rfl (fun K hK=>?_) ?_
      ·go_simp;refine hK.out _ _ (cG.out _ (fun q _=>rfl)) (fun hHeld=>?_);clear hK K;refine wR 20 fun K hK=>?_;go_simp;refine hK.out _ _ (cG.out _ (fun q hq=>Below.heap_alloc _ _ _ (ix.out q hq))) (fun hHeld=>?_);clear hK K;refine wR 21 fun K hK=>?_;refine HI.o.step ⟨(y:Int),lo,h1 - 1⟩ _ (by rfl) fI.out (by rfl) (.tmp 46) (.tmp 65) (by rfl) cn Bk.out (by rfl) _ (by rfl) (by rfl) ?_;intro g6 c6 w9 O6 h2;have ul:Hid (∀ k,k < w.heap.size+1+1+1+1 -> w9.heap[k]? = w6.heap[k]?):=fun k hk=>h2 k (by have:=HI.o.hB;omega) (fun e=>by have:=(HI.o.own.lt k e).1;omega);have HP:=hide (HI.cset O6 ul.out (v:=.slice (some ⟨g6,0,none⟩) (cn+1) c6) rfl);have Bc:av w9 (w.heap.size+1+1) ⟨none,0,0,co,cn,cc,⟨[],vcl N y t⟩⟩:=(ul.out _ (by omega)).trans HI.p
       have d1:=Bc.nums.2;have d2:=kw Bc 1;have gF:Hid (∀ q,q <= w.heap.size -> w9.heap[q]? = w6.heap[q]?):=fun q hq=>ul.out q (by omega);have gO:Hid (∀ q,q <= w.heap.size -> (w9.setCell ⟨w.heap.size+1+1,1,none⟩ (.slice (some ⟨g6,0,none⟩) (cn+1) c6)).heap[q]? = w6.heap[q]?):=fun q hq=>(zw (by omega)).trans (gF.out q hq);refine hK.out _ _ (cG.out _ gF) (fun hHeld=>?_);clear hK K;refine wU 22 ?_;refine wR 23 fun K hK=>?_;go_simp;refine hK.out _ _ (cG.out _ gO) (fun hHeld=>?_);clear hK K;refine wD ?_ _;clear hHeld O6 h2 Bc d1 d2;go_wp2_with fail;go_roundw
       case rel=>exact ⟨t+1,kk+2,nn,some ⟨g6,0,none⟩,cn+1,c6,by omega,by have:=pU.out;omega,u4,rfl,by go_num,by rw [C6.1];exact rx,HP.congr C6.2.1 C6.2.2⟩
       case measure=>(have:=tN.out;simp [intOf];omega)
      ·refine AllReadyH.cons rfl (fun K hK=>?_) ?_;rotate_left
       ·exact AllReadyH.nil
       go_simp;refine hK.out _ _ (cG.out _ (fun q hq=>Below.heap_alloc _ _ _ (ix.out q hq))) (fun hHeld=>?_);clear hK K;refine wR 1 fun K hK=>?_;go_simp;refine hK.out _ _ (cG.out _ (fun q hq=>Below.heap_alloc _ _ _ (ix.out q hq))) (fun hHeld=>?_);clear hK K;refine wR 21 fun K hK=>?_;refine HI.o.step ⟨(y:Int),lo,h1 - 1⟩ _ (by rfl) fI.out (by rfl) (.tmp 46) (.tmp 65) (by rfl) cn Bk.out (by rfl) _ (by rfl) (by rfl) ?_;intro g6 c6 w9 O6 h2;have ul:Hid (∀ k,k < w.heap.size+1+1+1+1 -> w9.heap[k]? = w6.heap[k]?):=fun k hk=>h2 k (by have:=HI.o.hB;omega) (fun e=>by have:=(HI.o.own.lt k e).1;omega);have HP:=hide (HI.cset O6 ul.out (v:=.slice (some ⟨g6,0,none⟩) (cn+1) c6) rfl);have Bc:av w9 (w.heap.size+1+1) ⟨none,0,0,co,cn,cc,⟨[],vcl N y t⟩⟩:=(ul.out _ (by omega)).trans HI.p
       have d1:=Bc.nums.2;have d2:=kw Bc 1;have gF:Hid (∀ q,q <= w.heap.size -> w9.heap[q]? = w6.heap[q]?):=fun q hq=>ul.out q (by omega);have gO:Hid (∀ q,q <= w.heap.size -> (w9.setCell ⟨w.heap.size+1+1,1,none⟩ (.slice (some ⟨g6,0,none⟩) (cn+1) c6)).heap[q]? = w6.heap[q]?):=fun q hq=>(zw (by omega)).trans (gF.out q hq);refine hK.out _ _ (cG.out _ gF) (fun hHeld=>?_);clear hK K;refine wU 22 ?_;refine wR 23 fun K hK=>?_;go_simp;refine hK.out _ _ (cG.out _ gO) (fun hHeld=>?_);clear hK K;refine wD ?_ _;clear hHeld O6 h2 Bc d1 d2;go_wp2_with fail;go_roundw
       case rel=>exact ⟨t+1,kk+2,nn,some ⟨g6,0,none⟩,cn+1,c6,by omega,by have:=pU.out;omega,u4,rfl,by go_num,by rw [C6.1];exact rx,HP.congr C6.2.1 C6.2.2⟩
       case measure=>(have:=tN.out;simp [intOf];omega)
    ·obtain rfl:t=(N y).length:=by omega
     have Ef:Hid (FoI w w6 T (vfn N (y+1) 0) co cn cc (aJ N (y+1))):=HI.congr (fun q=>zil N y q) (zim N y)
     have mL:Hid (nn=V.dN (fun q=>au (N q)) (y+1)):=by show _=_;rw [<- zgg];exact rx.out
     obtain ⟨k1,lK⟩:∃ k1:Nat,kk+1=k1:=⟨_,rfl⟩
     have Kr:IntKind.i64.wrap ((kk:Int)+1)=(k1:Int):=by have:=pU.out;rw [IntKind.wrap_i64];omega
     have iU:¬ (k1:Int) < (sn:Int):=by have:=pU.out;have:=BP.out;omega
     clear lK;clear HI rx;go_wp2_with fail;go_roundw
     case rel=>exact ⟨y+1,nn,co,cn,cc,by omega,u4,rfl,by go_num,mL,Ef⟩
     case measure=>simp [intOf];omega
  ·obtain rfl:y=16:=by omega
   obtain ⟨pv,hP,f1,f2,f3,f4,f5⟩:=HI.fin (fun r hr=>(HS.out r hr).2) rx.out _ rfl;have d1:=HI.p.nums.1;have d2:=kw HI.p 0
   have dF:=zj f1.at
   obtain ⟨e1,e2,e3,e4,e5⟩:=qu f2 f3 f4 f5 (by omega);have iA:=hide e2;have fq:Hid (ct w _ (.returned (PV pv)) (fun P=>P=dW N)):=⟨pv,rfl,e3,e4,e5,hP⟩;clear HI f1 f2 f3 f4 f5 e2 e3 e4 e5;go_wp2_with fail;exact bodyPost_ret (v:=PV pv) (eR Tryz.results119 rfl iA) rfl fq.out
end Go.Proofs.YtjffpimfngdggaaGreat
