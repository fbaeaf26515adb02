/- QFo -/
import Derived.Test.YtjffpimfngdggaaGreatTk
import Derived.Test.YtjffpimfngdggaaGreatFe06
import Derived.Deep.RegionHeldLaw
set_option maxRecDepth 100000
set_option maxHeartbeats 4000000
namespace Go.Proofs.YtjffpimfngdggaaGreat
open Go.RowKit
attribute [local go_sem ↓] xT jn kN kz zq zp V.ye
attribute [local go_sem] xF qT xN qB ko qY zaE zE zi qm zj
theorem zju (s:Sn):(SC s=#[])=False:=by simp [SC]
theorem zi4 (e:Sn):Array.foldl (fun cs x=>cs.setIfInBounds x.snd x.fst) #[(SC sn0)[0]!,(SC sn0)[1]!,(SC sn0)[2]!] (SC e).zipIdx 0 3=SC e:=rfl
attribute [local go_sem] zju zi4
theorem kj {w:World} {g:Nat} {p:Pv} (h:aA w g p) (t:Nat):w.frozen? ⟨g,t,none⟩=false:=by unfold aA at h;simp [World.frozen?,h]
theorem eH.step {B0 B:Nat} {w w':World} {ao:Option Addr} {cap:Nat} {acc:List Sn} (O:eH B0 B w w' ao cap acc) (e:Sn) (C:Array Value) (hC:C=SC e) (cF:acc.length < 5864062014805)
  {ops:Array Oper} {o:Oper} {a:Act} {K:Act -> World -> Prop} {Q:Exit -> Act -> World -> Prop} {E:Prop} (hgd:o.guard=none) (s x:Operand) (ho:o.op = .call { callee:=.builtin .append,args:=#[s,x],argTypes:=#[24,24] })
  (n:Nat) (hn:acc.length=n) (hs:a.eval s = .slice ao n cap) (g0:Nat) (hg0:w'.heap.size=g0) (hx:a.eval x = .slice (some ⟨g0,0,none⟩) 1 1)
  (hK:∀ (g cap2:Nat) (w2:World),eH B0 B w w2 (some ⟨g,0,none⟩) cap2 (acc++[e]) -> (∀ k,k < w'.heap.size -> (Value.slice ao acc.length cap).ownBlock≠some k -> w2.heap[k]? = w'.heap[k]?) -> K (a.put o.dst (.slice (some ⟨g,0,none⟩) (n+1) cap2)) w2) :
  if Region.wanted o (yielded ops a.tmps)=true then Oper.wp Tryz.prog o a (w'.alloc (.cells C 104)).drew K Q else E:=by
 have hw:Region.wanted o (yielded ops a.tmps)=true:=by simp [Region.wanted,hgd]
 rw [if_pos hw];subst hC hg0 hn;obtain ⟨i0,hi,dg,dn,ee⟩:=info_parts rP;have O1:=(O.later (ze w' (.cells (SC e) 104))).later (zg _)
 have hz:(w'.alloc (.cells (SC e) 104)).drew.heap.size=w'.heap.size+1:=by show (w'.alloc _).heap.size=_;simp
 obtain ⟨v',w2,dJ,aM,az,_,gZ⟩:=run_append_own_at (P:=Tryz.prog) (w'.alloc (.cells (SC e) 104)).drew B 24 o.type 104 i0 (.agg #[.int .i64 0,.int .i64 0,.int .i64 0]) 3 24 Tryz.underlying24 hi dg dn ee rfl (by decide) (.slice ao acc.length cap) acc.length (scs acc) O1.own ⟨w'.heap.size,0,none⟩ 1 1 (SC e).toList (by simp [SC])
  (fun j u hj=>by
   rw [Addr.add_lit,Nat.zero_add]
   show (w'.alloc _).cell? _=_
   rw [World.cell?_alloc_new]
   simpa using hj)
  (fun u hu=>zfy e u hu) (by unfold maxLen;omega) (by omega) O1.hB
 rcases aM.2 with ⟨h0,fh⟩ | ⟨g,cap2,cur,hv,r⟩
 ·omega
 ·subst hv;have hB:=O.hB;have hB0:=O.hB0;have dx:∀ k,(Value.slice ao acc.length cap).ownBlock=some k -> B <= k:=fun k hk=>(O.own.lt k hk).1;have dP:=az.size;rw [hz] at dP;unfold Oper.wp;simp [execOp,ho,resolve,invoke,builtin,hs,hx,dJ,Result.andThen];refine hK g cap2 w2 ⟨?_,O1.below.grown az (by rw [hz];omega) (fun k hk=>by have:=dx k hk;omega),by omega,hB0⟩ (fun k hk ch=>?_)
  ·rw [List.length_append,yL,zd9];exact aM
  ·rw [az.block k (by rw [hz];omega) (fun e=>ch e.symm)];exact Below.heap_alloc _ _ _ hk
theorem tU:madeCells #[Value.int .i64 0] (16 * 1)=V16 (fun _=>0):=by
 apply Array.ext
 ·simp [madeCells,V16]
 ·intro i h1 h2;simp [madeCells,V16,Nat.mod_one]
theorem zfV (w:World):(V.o3 (.int .i64 16) (.int .i64 16)).run Tryz.prog w = .ok (.slice (some ⟨w.heap.size,0,none⟩) 16 16) (w.alloc (.cells (V16 fun _=>0) 3)):=by
 obtain ⟨i0,hi,dg,dn,ee⟩:=info_parts mG;have h:=run_make (P:=Tryz.prog) w 23 3 i0 (.int .i64 0) Tryz.underlying23 hi dg .i64 .i64 16 16 (by omega) (by omega) (by rw [ee];omega) (by omega);rw [dn,show Int.toNat 16=16 from rfl,show (Value.int .i64 0).cells=#[Value.int .i64 0] from rfl,tU] at h;exact h
theorem FoI.start (w:World) (T:Nat -> Si) (N:Nat -> List Rn):FoI w ((((w.alloc (.cells (JA T) 141)).alloc (.cells (PC pv0) 26)).alloc (.cells (PC pv0) 26)).alloc (.cells (V16 fun _=>0) 3)) T (vfn N 0 0) none 0 0 (aJ N 0):=by
 have b1:=ze w (.cells (JA T) 141);have b2:=ze (w.alloc (.cells (JA T) 141)) (.cells (PC pv0) 26);have b3:=ze ((w.alloc (.cells (JA T) 141)).alloc (.cells (PC pv0) 26)) (.cells (PC pv0) 26);have b4:=ze (((w.alloc (.cells (JA T) 141)).alloc (.cells (PC pv0) 26)).alloc (.cells (PC pv0) 26)) (.cells (V16 fun _=>0) 3);have i1:=((xA w 141 T).below b2).below b3 |>.below b4;have i2:=((zr (w.alloc (.cells (JA T) 141)) pv0).below b3).below b4;have i3:=(zr ((w.alloc (.cells (JA T) 141)).alloc (.cells (PC pv0) 26)) pv0).below b4;simp only [World.size_alloc] at i1 i2 i3;have bl:=b1.trans ((b2.mono b1.size).trans ((b3.mono (b1.trans (b2.mono b1.size)).size).trans (b4.mono (b1.trans ((b2.mono b1.size).trans (b3.mono (b1.trans (b2.mono b1.size)).size))).size)));refine ⟨i1,i2,i3,?_,eH.nil bl (by simp) (by omega),rfl⟩;have h4:=heap_alloc_new (((w.alloc (.cells (JA T) 141)).alloc (.cells (PC pv0) 26)).alloc (.cells (PC pv0) 26)) (.cells (V16 fun _=>0) 3)
 simp only [World.size_alloc] at h4;rw [h4,zfx (f:=vfn N 0 0) (g:=fun _=>0) (fun q=>by unfold vfn;rw [if_neg (by omega)];split <;> simp [ar])]
theorem FoI.fin {w W:World} {T:Nat -> Si} {N:Nat -> List Rn} {co:Option Addr} {cn cc:Nat} (I:FoI w W T (vfn N 16 0) co cn cc (aJ N 16)) (hN:∀ r,r < 16 -> form 1 (N r)) {nn:Nat} (hn:nn=V.dD (fun q=>ar (N q)) 16) (v:Value) (hv:v = .slice (some ⟨w.heap.size+1+1+1,0,none⟩) nn 16) :
  ∃ pv:Pv,pv.P=dM N/\aA (W.setCell ⟨w.heap.size+1+1,0,none⟩ v) (w.heap.size+1+1) pv/\aA (W.setCell ⟨w.heap.size+1+1,0,none⟩ v) (w.heap.size+1) pv0/\am (W.setCell ⟨w.heap.size+1+1,0,none⟩ v) pv/\du (w.heap.size+1+1) pv/\Below w.heap.size w (W.setCell ⟨w.heap.size+1+1,0,none⟩ v):=by
 subst hv hn;have ip:=V.zdZ (fun q=>ar (N q)) 16;have fC:=xM (N:=N) 16 hN;obtain ⟨s1,s2⟩:=I.o.src (by omega);have hs:∀ {q:Nat},q≠w.heap.size+1+1 -> (W.setCell ⟨w.heap.size+1+1,0,none⟩ (.slice (some ⟨w.heap.size+1+1+1,0,none⟩) (V.dD (fun q=>ar (N q)) 16) 16)).heap[q]? = W.heap[q]?:=fun h=>zy h;refine ⟨⟨some ⟨w.heap.size+1+1+1,0,none⟩,V.dD (fun q=>ar (N q)) 16,16,co,cn,cc,dM N⟩,rfl,?_,(hs (by omega)).trans I.z,⟨?_,?_,Nat.le_trans ip (by omega)⟩,⟨fun ad h=>?_,fun ad h=>?_⟩,V.qg I.o.below (by show _ <= w.heap.size+1+1;omega)⟩
 ·have h:=I.p;unfold aA at h ⊢;simp [World.setCell,h,Array.getElem?_modify,PC]
 ·refine ⟨V.zR _,fun h=>(by cases h),fun ad h k hk=>?_⟩;obtain rfl:=Option.some.inj h;rw [Addr.add_lit,Nat.zero_add,World.cell?_of_block (hs (by show w.heap.size+1+1+1≠_;omega)),cell_of_row W _ k _ _ _ I.v];have i6:k < V.dD (fun q=>ar (N q)) 16:=hk
  have ui:k < 16:=by omega
  have e1:(V16 (vfn N 16 0))[k]? = some (.int .i64 (ar (N k))):=by simp [V16,ui,vfn]
  have e2:(dM N).vec.getD k 0=ar (N k):=by
   show (V.aL _).getD k 0=_
   simp [V.aL,V.top,List.getD,i6]
  rw [e1,e2]
 ·rw [I.l] at s1;exact s1.off (fun ad h=>hs (by have:=s2 ad h;omega))
 ·obtain rfl:=Option.some.inj h
  show w.heap.size+1+1 <= w.heap.size+1+1+1
  omega
 ·have:=s2 ad h;omega
theorem zbV (T:Nat -> Si) (N:Nat -> List Rn) (w:World) (hS:∀ r,r < 16 -> V.Src w (T r).ao (T r).n (T r).cap (tn (N r))/\form 1 (N r)) :
  Calls Tryz.prog 119 #[JAv T] w fun e w'=>cV w w' e (fun P=>P=dM N):=by
 have HS:=hide hS;clear hS;have Cx:=hide (FoI.start w T N);have DL:=zfV (((w.alloc (.cells (JA T) 141)).alloc (.cells (PC pv0) 26)).alloc (.cells (PC pv0) 26));go_enter Tryz.func119,Tryz.ntmps119;go_wp2_with fail;clear DL;go_loopw [5,6] (fun vn vr wr=>∃ (y nn:Nat) (co:Option Addr) (cn cc:Nat),y <= 16/\nn <= 16/\vn = .int .i64 nn/\vr = .int .i64 y/\Hid (nn=V.dD (fun q=>ar (N q)) y)/\Hid (FoI w wr T (vfn N y 0) co cn cc (aJ N y))) (fun _ i _=>16 - (intOf i).toNat)
 case atStart=>exact ⟨0,0,none,0,0,Nat.zero_le _,Nat.zero_le _,rfl,rfl,rfl,Cx⟩
 case round =>
  obtain ⟨y,nn,co,cn,cc,AY,ul,rfl,rfl,px,HI⟩:=hrel
  rename World=>w3
  clear Cx
  have y0:(0:Int) <= (y:Int):=by omega
  by_cases hy:y < 16
  ·have y1:(y:Int) < 16:=by omega
   have HF:=hide (HS.out y hy).2;have nz:=hide (HS.out y hy).1;obtain ⟨sa,sn,sc,hf⟩:∃ sa sn sc,(T y).ao=sa/\(T y).n=sn/\(T y).cap=sc:=⟨_,_,_,rfl,rfl,rfl⟩;rw [hf.1,hf.2.1,hf.2.2] at nz;have AF:=hide hf;clear hf
   have uZ:Hid (sn=2 * (N y).length):=by have:=nz.out.1;rw [wG] at this;show _=_;omega
   have Ac:=xt (Int.le_refl _) HF.out
   have ti:sn <= 1000000002:=by have:=uZ.out;omega
   have mZ:Hid (FoI w w3 T (vfn N y 0) co cn cc (vcl N y 0)):=by have:=HI.out;rw [<- zfM] at this;exact this
   have E1:Hid (nn=ll N y 0):=by show _=_;rw [zdV];exact px.out
   clear HI px;go_wp2_with fail;go_loopw [5,7] (fun vn vk wr=>∃ (t kk nn:Nat) (co:Option Addr) (cn cc:Nat),t <= (N y).length/\kk=2 * t/\nn <= 16/\vn = .int .i64 nn/\vk = .int .i64 kk/\Hid (nn=ll N y t)/\Hid (FoI w wr T (vfn N y t) co cn cc (vcl N y t))) (fun _ i _=>sn - (intOf i).toNat)
   case atStart=>exact ⟨0,0,nn,co,cn,cc,Nat.zero_le _,rfl,ul,rfl,rfl,E1,mZ⟩
   case round =>
    obtain ⟨t,kk,nn,co,cn,cc,ht,nh,ul,rfl,rfl,px,HI⟩:=hrel
    rename World=>w6
    have oO:=hide nh;clear mZ E1 nh;have c0:=HI.out.a.cell y hy;rw [AF.out.1,AF.out.2.1,AF.out.2.2] at c0;by_cases ak:t < (N y).length
    ·have gY:kk+1 < sn:=by have:=oO.out;have:=uZ.out;omega
     have gK:kk < sn:=by omega
     obtain ⟨da,tz,qa⟩:=qF nz.out kk (by omega);obtain ⟨db,ol,qb⟩:=qF nz.out (kk+1) gY;have tj:db=da:=Option.some.inj (ol.symm.trans tz);rw [tj] at qb;clear ol tj;subst tz;obtain ⟨tl1,tl2⟩:=zhO (N y) t ak;rw [<- oO.out] at tl1 tl2;rw [tl1] at qa;rw [tl2] at qb;clear tl1 tl2;have CT:=zam HF.out t ak;obtain ⟨x,Hx⟩:∃ x,Hid ((N y).getD t rn0=x):=⟨_,rfl⟩;rw [Hx.out] at qa qb CT;obtain ⟨lo,sv⟩:∃ lo,x.lo=lo:=⟨_,rfl⟩;obtain ⟨h1,DH⟩:∃ h1,x.hi+1=h1:=⟨_,rfl⟩;rw [sv] at qa;rw [DH] at qb
     have ug:x.hi=h1 - 1:=by omega
     rw [sv,ug] at CT;have u7:=hide (And.intro sv ug);clear sv DH ug db;obtain ⟨k1,li⟩:∃ k1:Nat,kk+1=k1:=⟨_,rfl⟩;rw [li] at qb gY;have Dv:=hide li
     have Kn:IntKind.i64.wrap ((kk:Int)+1)=(k1:Int):=by rw [IntKind.wrap_i64];omega
     clear li
     have JO:Hid (∀ W':World,(∀ q,q <= w.heap.size -> W'.heap[q]? = w6.heap[q]?) -> W'.cell? ⟨w.heap.size,y,none⟩=some (.slice (some da) sn sc)/\W'.cell? (da.add kk)=some (.int .i64 lo)/\W'.cell? (da.add k1)=some (.int .i64 h1)):=fun W' h=>by
      have la:=World.block_lt_of_cell? _ _ qa;have lb:=World.block_lt_of_cell? _ _ qb;exact ⟨(World.cell?_of_block (h _ (Nat.le_refl _))).trans c0,(World.cell?_of_block (h _ (Nat.le_of_lt la))).trans ((HI.out.o.below.cell la).trans qa),(World.cell?_of_block (h _ (Nat.le_of_lt lb))).trans ((HI.out.o.below.cell lb).trans qb)⟩
     obtain ⟨_,q1,q2⟩:=JO.out w6 (fun _ _=>rfl);clear qa qb
     have uX:IntKind.i64.wrap (h1 - 1)=h1 - 1:=by rw [IntKind.wrap_i64];omega
     by_cases he:lo=1
     ·subst he;have Bg:=hide (zeL HF.out t ak (by rw [Hx.out];exact u7.out.1));have Mo:=hide (zfJ (N:=N) HF.out ak (by rw [Hx.out];exact u7.out.1));have v1:=(cell_of_row w6 _ y _ _ _ HI.out.v).trans (show (V16 (vfn N y t))[y]? = some (.int .i64 (vfn N y t y)) by simp [V16,hy]);have v2:=frozen_of_row w6 _ y _ _ HI.out.v;have HP:=hide (HI.out.vset y (h1 - 1));go_wp2_with fail;clear v1 v2;go_roundw
      case rel=>exact ⟨t+1,kk+2,y+1,co,cn,cc,by omega,by have:=oO.out;omega,by omega,by go_num,by go_num,by show _=_;rw [ll,Bg.out.2.1,if_neg (by have:=Bg.out.2.2.2;omega)],HP.out.congr (fun q=>by rw [Mo.out q,Hx.out,u7.out.2]) (by unfold vcl;rw [Bg.out.2.2.1])⟩
      case measure=>(have:=Dv.out;simp [intOf];omega)
     ·have DD:(lo == 1)=false:=by simp [he]
      have IV:=zel (R:=N y) t ak (by rw [Hx.out,u7.out.1];exact he);have BQ:Hid (ll N y (t+1)=ll N y t/\(∀ q,vfn N y t q=vfn N y (t+1) q)/\vcl N y t++[⟨(y:Int),lo,h1 - 1⟩]=vcl N y (t+1)):=⟨by unfold ll;rw [IV.1],fun q=>(zfI ak (by rw [Hx.out,u7.out.1];exact he) q).symm,by unfold vcl;rw [IV.2,zfO,Hx.out,u7.out.1,u7.out.2,List.append_assoc]⟩;have Aw:=hide HI.out.l
      have eW:Hid ((vcl N y t).length < 5864062014805):=by
       show _ < _
       have h1:=xM (N:=N) y (fun r hr=>(HS.out r (by omega)).2);have h2:=vB ((N y).take t);rw [List.length_take] at h2;unfold vcl;rw [List.length_append,j3];omega
      have cU:=JO
      have ie:Hid (∀ q,q <= w.heap.size -> q < w6.heap.size):=fun q hq=>by have:=HI.out.o.hB;omega
      have c1:=HI.out.p.nums.2;have c1n:=((ze w6 (.cells (SC ⟨(y:Int),lo,h1 - 1⟩) 104)).cell (World.block_lt_of_cell? _ _ c1)).trans c1;have c1d:=((ze w6.drew (.cells (SC ⟨(y:Int),lo,h1 - 1⟩) 104)).cell (World.block_lt_of_cell? w6 _ c1)).trans c1;clear IV;go_wp2_with fail;clear q1 q2 c0;refine wp_region_held_drew (S:=fun W=>W.cell? ⟨w.heap.size,y,none⟩=some (.slice (some da) sn sc)/\W.cell? (da.add kk)=some (.int .i64 lo)/\W.cell? (da.add k1)=some (.int .i64 h1)) (by kernel_rfl) (cU.out _ (fun q _=>rfl)) (fun hHeld=>?_);refine wU 0 ?_;refine wU 2 ?_;refine wU 3 ?_;refine wU 4 ?_;refine wU 5 ?_;refine wU 6 ?_;refine wU 7 ?_;refine wU 8 ?_;refine wU 9 ?_;refine wU 10 ?_;refine wU 11 ?_;refine wU 12 ?_;refine wU 13 ?_;refine wU 14 ?_;refine wU 15 ?_;refine wU 16 ?_;refine wU 17 ?_;refine wU 18 ?_;refine wU 19 ?_;refine wpAnyH_ready (rs:=[1,20]) (by kernel_rfl) (by simp) ?_
      refine AllReadyH.cons rfl (fun K hK=>?_) ?_
      ·go_simp;refine hK.out _ _ (cU.out _ (fun q _=>rfl)) (fun hHeld=>?_);clear hK K;refine wpAnyH_ready (rs:=[20]) (by kernel_rfl) (by simp) (.cons rfl (fun K hK=>?_) .nil);go_simp;refine hK.out _ _ (cU.out _ (fun q hq=>Below.heap_alloc _ _ _ (ie.out q hq))) (fun hHeld=>?_);clear hK K;refine wpAnyH_ready (rs:=[21]) (by kernel_rfl) (by simp) (.cons rfl (fun K hK=>?_) .nil);refine HI.out.o.step ⟨(y:Int),lo,h1 - 1⟩ _ (by rfl) eW.out (by rfl) (.tmp 46) (.tmp 65) (by rfl) cn Aw.out (by rfl) _ (by rfl) (by rfl) ?_;intro g6 c6 w9 O6 h2;have tx:Hid (∀ k,k < w.heap.size+1+1+1+1 -> w9.heap[k]? = w6.heap[k]?):=fun k hk=>h2 k (by have:=HI.out.o.hB;omega) (fun e=>by have:=(HI.out.o.own.lt k e).1;omega);have HP:=hide (HI.out.cset O6 tx.out (v:=.slice (some ⟨g6,0,none⟩) (cn+1) c6) rfl);have AW:aA w9 (w.heap.size+1+1) ⟨none,0,0,co,cn,cc,⟨[],vcl N y t⟩⟩:=(tx.out _ (by omega)).trans HI.out.p
       have d1:=AW.nums.2;have d2:=kj AW 1;have gv:Hid (∀ q,q <= w.heap.size -> w9.heap[q]? = w6.heap[q]?):=fun q hq=>tx.out q (by omega);have gP:Hid (∀ q,q <= w.heap.size -> (w9.setCell ⟨w.heap.size+1+1,1,none⟩ (.slice (some ⟨g6,0,none⟩) (cn+1) c6)).heap[q]? = w6.heap[q]?):=fun q hq=>(zy (by omega)).trans (gv.out q hq);refine hK.out _ _ (cU.out _ gv.out) (fun hHeld=>?_);clear hK K;refine wU 22 ?_;refine wpAnyH_ready (rs:=[23]) (by kernel_rfl) (by simp) (.cons rfl (fun K hK=>?_) .nil);go_simp;refine hK.out _ _ (cU.out _ gP.out) (fun hHeld=>?_);clear hK K;refine wpAnyH_done (by kernel_rfl) ?_ _;clear hHeld O6 h2 AW d1 d2;go_wp2_with fail;go_roundw
       case rel=>exact ⟨t+1,kk+2,nn,some ⟨g6,0,none⟩,cn+1,c6,by omega,by have:=oO.out;omega,ul,rfl,by go_num,by rw [BQ.out.1];exact px.out,HP.out.congr BQ.out.2.1 BQ.out.2.2⟩
       case measure=>(have:=Dv.out;simp [intOf];omega)
      ·refine AllReadyH.cons rfl (fun K hK=>?_) ?_;rotate_left
       ·exact AllReadyH.nil
       go_simp;refine hK.out _ _ (cU.out _ (fun q hq=>Below.heap_alloc _ _ _ (ie.out q hq))) (fun hHeld=>?_);clear hK K;refine wpAnyH_ready (rs:=[1]) (by kernel_rfl) (by simp) (.cons rfl (fun K hK=>?_) .nil);go_simp;refine hK.out _ _ (cU.out _ (fun q hq=>Below.heap_alloc _ _ _ (ie.out q hq))) (fun hHeld=>?_);clear hK K;refine wpAnyH_ready (rs:=[21]) (by kernel_rfl) (by simp) (.cons rfl (fun K hK=>?_) .nil);refine HI.out.o.step ⟨(y:Int),lo,h1 - 1⟩ _ (by rfl) eW.out (by rfl) (.tmp 46) (.tmp 65) (by rfl) cn Aw.out (by rfl) _ (by rfl) (by rfl) ?_;intro g6 c6 w9 O6 h2;have tx:Hid (∀ k,k < w.heap.size+1+1+1+1 -> w9.heap[k]? = w6.heap[k]?):=fun k hk=>h2 k (by have:=HI.out.o.hB;omega) (fun e=>by have:=(HI.out.o.own.lt k e).1;omega);have HP:=hide (HI.out.cset O6 tx.out (v:=.slice (some ⟨g6,0,none⟩) (cn+1) c6) rfl);have AW:aA w9 (w.heap.size+1+1) ⟨none,0,0,co,cn,cc,⟨[],vcl N y t⟩⟩:=(tx.out _ (by omega)).trans HI.out.p
       have d1:=AW.nums.2;have d2:=kj AW 1;have gv:Hid (∀ q,q <= w.heap.size -> w9.heap[q]? = w6.heap[q]?):=fun q hq=>tx.out q (by omega);have gP:Hid (∀ q,q <= w.heap.size -> (w9.setCell ⟨w.heap.size+1+1,1,none⟩ (.slice (some ⟨g6,0,none⟩) (cn+1) c6)).heap[q]? = w6.heap[q]?):=fun q hq=>(zy (by omega)).trans (gv.out q hq);refine hK.out _ _ (cU.out _ gv.out) (fun hHeld=>?_);clear hK K;refine wU 22 ?_;refine wpAnyH_ready (rs:=[23]) (by kernel_rfl) (by simp) (.cons rfl (fun K hK=>?_) .nil);go_simp;refine hK.out _ _ (cU.out _ gP.out) (fun hHeld=>?_);clear hK K;refine wpAnyH_done (by kernel_rfl) ?_ _;clear hHeld O6 h2 AW d1 d2;go_wp2_with fail;go_roundw
       case rel=>exact ⟨t+1,kk+2,nn,some ⟨g6,0,none⟩,cn+1,c6,by omega,by have:=oO.out;omega,ul,rfl,by go_num,by rw [BQ.out.1];exact px.out,HP.out.congr BQ.out.2.1 BQ.out.2.2⟩
       case measure=>(have:=Dv.out;simp [intOf];omega)
    ·obtain rfl:t=(N y).length:=by omega
     have Di:Hid (FoI w w6 T (vfn N (y+1) 0) co cn cc (aJ N (y+1))):=HI.out.congr (fun q=>zhL N y q) (zhM N y)
     have r9:Hid (nn=V.dD (fun q=>ar (N q)) (y+1)):=by show _=_;rw [<- zfH];exact px.out
     obtain ⟨k1,li⟩:∃ k1:Nat,kk+1=k1:=⟨_,rfl⟩
     have Kn:IntKind.i64.wrap ((kk:Int)+1)=(k1:Int):=by have:=oO.out;rw [IntKind.wrap_i64];omega
     have gY:¬ (k1:Int) < (sn:Int):=by have:=oO.out;have:=uZ.out;omega
     clear li;clear HI px;go_wp2_with fail;go_roundw
     case rel=>exact ⟨y+1,nn,co,cn,cc,by omega,ul,rfl,by go_num,r9,Di⟩
     case measure=>simp [intOf];omega
  ·obtain rfl:y=16:=by omega
   obtain ⟨pv,hP,f1,f2,f3,f4,f5⟩:=HI.out.fin (fun r hr=>(HS.out r hr).2) px.out _ rfl;have d1:=HI.out.p.nums.1;have d2:=kj HI.out.p 0
   have dK:=zl f1.at
   obtain ⟨e1,e2,e3,e4,e5⟩:=qU f2 f3 f4 f5 (by omega);have nj:=hide e2;have gz:Hid (cV w _ (.returned (PV pv)) (fun P=>P=dM N)):=⟨pv,rfl,e3,e4,e5,hP⟩;clear HI f1 f2 f3 f4 f5 e2 e3 e4 e5;go_wp2_with fail;exact bodyPost_ret (v:=PV pv) (eS Tryz.results119 rfl nj.out) rfl gz.out
end Go.Proofs.YtjffpimfngdggaaGreat
