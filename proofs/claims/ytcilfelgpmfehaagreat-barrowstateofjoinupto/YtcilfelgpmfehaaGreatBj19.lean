/- TUc BS1 BLi BSo -/
import Derived.Test.YtcilfelgpmfehaaGreatBj18
import Derived.Laws.AppendOwnNone
import Derived.Deep.LoopGhost
import Derived.Deep.CutRange
set_option maxRecDepth 100000
set_option maxHeartbeats 4000000
namespace Go.Proofs.YtcilfelgpmfehaaGreat
section
open Go.RowKit Go.Lib Go.Maps Go.Sort
theorem zcF (R:List Rc):∀ v∈rvs R,v.oneCell'=true:=by
 intro v hv;obtain ⟨l,hl,hv⟩:=List.mem_flatten.1 hv;obtain ⟨r,-,rfl⟩:=List.mem_map.1 hl;exact yE r v hv
theorem RcS.cells {w:World} {ad:Addr} {n cap:Nat} {L:List Rc} (h:RcS w (some ad) n cap L):∀ j u,(rvs L)[j]? = some u -> w.cell? (ad.add j)=some u:=fun j u hj=>by
 have aq:j < L.length * 3:=by
  have:=(List.getElem?_eq_some_iff.1 hj).1;rwa [kB] at this
 have hn:=h.len
 have ht:j / 3 < n:=by omega
 have A:=h.at_ ad rfl (j / 3) ht
 have e:j=j / 3 * 3+j % 3:=by omega
 have hm:j % 3 < 3:=Nat.mod_lt _ (by decide);rw [e,zfp L (j / 3) (j % 3) (by omega) hm] at hj
 have hc:∀ i,i < 3 -> w.cell? ((ad.add (j / 3 * 3)).add i)=(ReC (mkR (L.getD (j / 3) rc0))).toList[i]?:=by
  intro i hi
  match i,hi with
  | 0,_=>rw [add_zero];exact A.c0
  | 1,_=>exact A.c1
  | 2,_=>exact A.c2
 rw [e,<- qt,hc _ hm,hj]
theorem aL.appAll {B:Nat} {w W:World} {h:Hs} {L:List Rc} (O:aL B w W h L) (bo:Option Addr) (m c:Nat) (R:List Rc) (hR:RcS W bo m c R) (hc:bo=none -> c=0) (hf:∀ r∈R,dU h r.p) (hn:h.n+m <= 2199023255552) :
  ∃ h2 W2,(Builtin.append_ #[27,27] 27 #[HsV h,.slice bo m c]).run Tryz.prog W = .ok (HsV h2) W2/\h2.n=h.n+m/\aL B w W2 h2 (L++R)/\(∀ q,q < W.heap.size -> (HsV h).ownBlock≠some q -> W2.heap[q]? = W.heap[q]?):=by
 obtain ⟨i0,hi,dn,dm,ef⟩:=info_parts fG
 cases bo with
 | none =>
  obtain rfl:c=0:=hc rfl;obtain rfl:m=0:=hR.nil rfl;obtain rfl:R=[]:=List.eq_nil_of_length_eq_zero hR.len;refine ⟨h,W,run_append_owned_none (P:=Tryz.prog) (w:=W) B 27 27 84 i0 3 Tryz.underlying27 hi _ h.n (rvs L) O.own,rfl,by rw [List.append_nil];exact O,fun q _ _=>rfl⟩
 | some ad =>
  obtain ⟨v',W2,cO,cp,aC,_,fj⟩:=run_append_own_at (P:=Tryz.prog) W B 27 27 84 i0 (.agg #[.string ⟨#[]⟩,.slice none 0 0,.slice none 0 0]) 3 64 Tryz.underlying27 hi dn dm ef (by simp [Value.cells]) (by decide) (HsV h) h.n (rvs L) O.own ad m c (rvs R) (by rw [kB,hR.len]) hR.cells (zcF R) (by unfold maxLen;omega) (by omega) O.hB.2
  have ch:∀ q∈L++R,dp W q/\dU h q.p:=fun q hq=>by
   rcases List.mem_append.1 hq with hq | hq
   ·exact O.ok q hq
   ·exact ⟨hR.ok q hq,hf q hq⟩
  have dv:∀ k,(HsV h).ownBlock=some k -> B <= k:=fun k hk=>(O.own.lt k hk).1;have mp:Below w.heap.size w W2:=O.below.grown aC O.below.size (fun k hk=>by have:=dv k hk;have:=O.hB;omega);have Jq:∀ q,q < W.heap.size -> (HsV h).ownBlock≠some q -> W2.heap[q]? = W.heap[q]?:=fun q hq hn=>aC.block q hq (fun e=>hn e.symm);have mB:∀ q∈L++R,dp W2 q:=fun q hq=>⟨xI (ch q hq).1.1 (fun k hk=>(ch q hq).2 k hk) (fun k hk hn=>aC.block k hk hn),(ch q hq).1.2⟩
  have key:∀ h2:Hs,v'=HsV h2 -> h2.n=h.n+m -> aL B w W2 h2 (L++R):=fun h2 e2 en=>by
   subst e2;refine ⟨by rw [wS,en];exact cp,fun q hq=>⟨mB q hq,fun k hk=>?_⟩,mp,O.hB.1,Nat.le_trans O.hB.2 aC.size⟩;rcases fj with e | e
   ·exact (ch q hq).2 k (by rw [<- e];exact hk)
   ·rw [e] at hk;have:=Option.some.inj hk;exact df.old (ch q hq).1.1 (by omega)
  rcases cp.2 with ⟨h0,eU⟩ | ⟨g,cap2,cur,hv,dV,dB,hnc,fw,hcsz,htake⟩
  ·exact ⟨hs0,W2,by rw [cO,h0];rfl,eU.symm,key hs0 h0 eU.symm,Jq⟩
  ·exact ⟨⟨some ⟨g,0,none⟩,h.n+m,cap2⟩,W2,by rw [cO,hv],rfl,key ⟨some ⟨g,0,none⟩,h.n+m,cap2⟩ hv rfl,Jq⟩
theorem aL.appAt {B:Nat} {w W:World} {h:Hs} {L:List Rc} (O:aL B w W h L) (r:Rc) (hp:dp W r) (hf:dU h r.p) (hn:h.n <= 2199023255551) :
  ∃ g c2 W2,(Builtin.append_ #[27,27] 27 #[HsV h,.slice (some ⟨W.heap.size,0,none⟩) 1 1]).run Tryz.prog (W.alloc (.cells (ReC (mkR r)) 84)) = .ok (.slice (some ⟨g,0,none⟩) (h.n+1) c2) W2/\aL B w W2 ⟨some ⟨g,0,none⟩,h.n+1,c2⟩ (L++[r])/\(∀ q,q < W.heap.size -> (HsV h).ownBlock≠some q -> W2.heap[q]? = W.heap[q]?)/\((HsV h).ownBlock=some g∨W.heap.size <= g)/\W.heap.size <= W2.heap.size:=by
 obtain ⟨i0,hi,dn,dm,ef⟩:=info_parts fG;have b1:=ze W (.cells (ReC (mkR r)) 84);have O1:=O.later b1
 obtain ⟨v',W2,cO,cp,aC,_,fj⟩:=run_append_own_at (P:=Tryz.prog) (W.alloc (.cells (ReC (mkR r)) 84)) B 27 27 84 i0 (.agg #[.string ⟨#[]⟩,.slice none 0 0,.slice none 0 0]) 3 64 Tryz.underlying27 hi dn dm ef (by simp [Value.cells]) (by decide) (HsV h) h.n (rvs L) O1.own ⟨W.heap.size,0,none⟩ 1 1 (ReC (mkR r)).toList rfl (fun j u hj=>by
  rw [Addr.add_lit,Nat.zero_add,World.cell?_alloc_new]
  simpa using hj) (yE r) (by unfold maxLen;omega) (by omega) O1.hB.2
 obtain ⟨g,cap2,W3,o0,O3,MK⟩:=O.app r hp hf hn;rw [cO] at o0
 have e1:v' = .slice (some ⟨g,0,none⟩) (h.n+1) cap2:=by cases o0;rfl
 have e2:W2=W3:=by cases o0;rfl
 subst e1 e2;refine ⟨g,cap2,W2,cO,O3,MK,?_,by have h1:=aC.size;rw [World.size_alloc] at h1;omega⟩;rcases fj with e | e
 ·exact .inl e.symm
 ·refine .inr ?_;have h1:=Option.some.inj (e.symm.trans (rfl:(Value.slice (some ⟨g,0,none⟩) (h.n+1) cap2).ownBlock=some g));simp at h1;omega
theorem zfr {w w':World} {ao:Option Addr} {n cap:Nat} {L:List Rc} (h:RcS w ao n cap L) (hk:∀ ad,ao=some ad -> w'.heap[ad.block]? = w.heap[ad.block]?) (hp:∀ r∈L,dp w' r):RcS w' ao n cap L:=by
 refine ⟨h.len,h.nil,fun ad ha t ht=>?_,hp,h.big⟩;have A:=h.at_ ad ha t ht
 have hc:∀ a:Addr,a.block=ad.block -> w'.cell? a=w.cell? a:=fun a e=>by unfold World.cell?;rw [e,hk ad ha]
 have e1:(ad.add (t * 3)).block=ad.block:=zp _ _;exact ⟨by rw [hc _ e1];exact A.c0,by rw [hc _ (by rw [zp];exact e1)];exact A.c1,by rw [hc _ (by rw [zp];exact e1)];exact A.c2⟩
theorem zdX (n:Nat):(Builtin.zeroCells (ReC re0) n).size=n * 3:=by simp [Builtin.zeroCells,ReC]
theorem za2 (w:World):Below w.heap.size w w.drew:=⟨rfl,rfl,rfl,Nat.le_refl _,fun _ _=>rfl⟩
theorem zcb (n:Nat) (w:World) (hn:n <= 2199023255552):Calls Tryz.prog 89 #[.slice none 0 0,.int .i64 n] w fun e w'=>∃ h:Hs,e = .returned (HsV h)/\h.n=0/\aL w.heap.size w w' h []:=by
 by_cases h0:n=0
 ·subst h0;refine Calls.mono (Any8.slices_Grow_room Tryz.growRe none 0 0 0 w (Nat.le_refl _) (by omega) (by omega) (Nat.le_refl _)) ?_;rintro e w' ⟨rfl,rfl⟩;exact ⟨hs0,rfl,rfl,aL.nil _⟩
 ·obtain ⟨i0,hi,dn,dm,ef⟩:=info_parts fG;have h:=Any8.slices_Grow_grow Tryz.growRe i0 _ hi dn (by rw [dm];omega) none 0 0 n [] w (Nat.le_refl _) (by omega) (by rw [ef];omega) (by omega) (by simp) (fun _=>rfl) (fun a ha=>by cases ha);rw [show Tryz.growRe_ren.t 25=84 from rfl] at h;refine Calls.mono h ?_;rintro e w' ⟨rfl,rfl⟩;have sZ:=grownCap_ge w (0+n) 0 84;have m9:=grownCap_le_maxLen w (0+n) 0 84 (by unfold maxLen;omega);refine ⟨⟨some ⟨w.heap.size,0,none⟩,0,grownCap w (0+n) 0 84⟩,rfl,rfl,⟨⟨rfl,Or.inr ⟨w.heap.size,grownCap w (0+n) 0 84,_,rfl,Nat.le_refl _,heap_alloc_new w.drew _,Nat.zero_le _,m9,?_,by simp [rvs]⟩⟩,fun r hr=>(by cases hr),(za2 w).trans ((ze w.drew _).mono (Nat.le_refl _)),Nat.le_refl _,by simp⟩⟩
  have hc:(Value.agg #[.string ⟨#[]⟩,.slice none 0 0,.slice none 0 0]).cells=ReC re0:=by simp [Value.cells];rfl
  rw [hc];simp only [Array.size_append,zdX];rw [Nat.zero_add] at sZ ⊢;simp;omega
theorem zds {w W:World} {B:Nat} {h:Hs} {L:List Rc} (O:aL B w W h L) {p:Pv} (hp:ak w p):dU h p:=fun k hk=>df.old hp (Nat.le_trans O.hB.1 (O.own.lt k hk).1)
theorem zak (gb:Nat) (ao bo:Option Addr) (n cap m cap':Nat) (L R:List Rc) (w:World) (hS:RcS w ao n cap L) (hR:RcS w bo m cap' R) (ha:ao=none -> cap=0) (hb:bo=none -> cap'=0) (c0:w.cell? ⟨gb,0,none⟩=some (.slice ao n cap)) (c1:w.cell? ⟨gb,1,none⟩=some (.slice bo m cap')) (cP:n+m <= 2199023255552) :
  Calls Tryz.prog 63 #[.slice (some ⟨gb,0,none⟩) 2 2] w fun e w'=>∃ h:Hs,e = .returned (HsV h)/\h.n=n+m/\aL w.heap.size w w' h (L++R):=by
 have HS:=hide hS;have HR:=hide hR;have HA:=hide ha;have EO:=hide hb;have HL:Hid (L.length=n):=hS.len;have FD:Hid (R.length=m):=hR.len;have lG:=hide c0;have fS:=hide c1;clear hS hR ha hb;go_enter Tryz.func63,Tryz.ntmps63;go_wp2_with fail;go_loopw [3,5,11] (fun s _ i wr=>∃ k z:Nat,k <= 2/\s = .int .i64 z/\i = .int .i64 k/\z=(if k=0 then 0 else if k=1 then n else n+m)/\w=wr) (fun _ _ i _=>2 - (intOf i).toNat)
 case atStart=>exact ⟨0,0,Nat.zero_le _,rfl,rfl,rfl,rfl⟩
 case round =>
  obtain ⟨k,z,hk,rfl,rfl,hz,rfl⟩:=hrel;by_cases h2:k=2
  ·subst h2;simp at hz;subst hz;clear c0 c1;go_wp2_with fail;refine (zcb (n+m) _ cP).mono ?_;rintro e w3 ⟨h3,rfl,JQ,O3⟩;have tQ:=hide O3;have JC:=hide JQ;clear O3 JQ;go_wp2_with fail;go_loopw [6,8,27] (fun v _ i wr=>∃ (k:Nat) (h:Hs) (acc:List Rc),k <= 2/\v = .slice h.o h.n h.c/\i = .int .i64 k/\Hid (h.n=(if k=0 then 0 else if k=1 then n else n+m)/\acc=(if k=0 then [] else if k=1 then L else L++R)/\aL w.heap.size w wr h acc)) (fun _ _ i _=>2 - (intOf i).toNat)
   case atStart=>exact ⟨0,h3,[],Nat.zero_le _,rfl,rfl,JC.out,rfl,tQ.out⟩
   case round =>
    clear tQ JC;obtain ⟨k,h,acc,hk,rfl,rfl,H⟩:=hrel
    rename World=>w4
    have d0:w4.cell? ⟨gb,0,none⟩=some (.slice ao n cap):=by rw [H.out.2.2.below.cell (World.block_lt_of_cell? _ _ lG.out)];exact lG.out
    have d1:w4.cell? ⟨gb,1,none⟩=some (.slice bo m cap'):=by rw [H.out.2.2.below.cell (World.block_lt_of_cell? _ _ fS.out)];exact fS.out
    by_cases h2:k=2
    ·subst h2
     have HF:Hid (h.n=n+m/\aL w.heap.size w w4 h (L++R)):=by
      obtain ⟨q1,q2,q3⟩:=H.out;simp at q1 q2;rw [q2] at q3;exact ⟨q1,q3⟩
     clear d0 d1;go_wp2_with fail;go_ret;exact ⟨h,rfl,HF.out.1,HF.out.2⟩
    ·by_cases h1:k=1
     ·subst h1;obtain ⟨q1,q2,q3⟩:=H.out;simp at q1 q2;obtain ⟨h5,w5,BO,n5,O5,-⟩:=q3.appAll bo m cap' R (HR.out.below q3.below) EO.out (fun r hr=>zds q3 (HR.out.ok r hr).1) (by omega);have m8:Hid ((Builtin.append_ #[27,27] 27 #[.slice h.o h.n h.c,.slice bo m cap']).run Tryz.prog w4 = .ok (.slice h5.o h5.n h5.c) w5):=BO;have HN:Hid (h5.n=n+m/\aL w.heap.size w w5 h5 (L++R)):=⟨by omega,by rw [<- q2];exact O5⟩;clear BO n5 O5 q1 q2 q3;go_wp2_with (at_builtin;refine xP rfl (.tmp 31) (.tmp 32) rfl rfl rfl m8.out ?_);go_roundw
      case rel=>exact ⟨1+1,h5,L++R,by omega,rfl,by go_num,by simp;exact HN.out.1,by simp,HN.out.2⟩
      case measure=>simp [intOf]
     ·obtain rfl:k=0:=by omega
      obtain ⟨q1,q2,q3⟩:=H.out;simp at q1 q2;obtain ⟨h5,w5,BO,n5,O5,-⟩:=q3.appAll ao n cap L (HS.out.below q3.below) HA.out (fun r hr=>zds q3 (HS.out.ok r hr).1) (by omega);have m8:Hid ((Builtin.append_ #[27,27] 27 #[.slice h.o h.n h.c,.slice ao n cap]).run Tryz.prog w4 = .ok (.slice h5.o h5.n h5.c) w5):=BO;have HN:Hid (h5.n=n/\aL w.heap.size w w5 h5 L):=⟨by omega,by rw [q2,List.nil_append] at O5;exact O5⟩;clear BO n5 O5 q1 q2 q3;go_wp2_with (at_builtin;refine xP rfl (.tmp 31) (.tmp 32) rfl rfl rfl m8.out ?_);go_roundw
      case rel=>exact ⟨0+1,h5,L,by omega,rfl,by go_num,by simp;exact HN.out.1,by simp,HN.out.2⟩
      case measure=>simp [intOf]
  ·by_cases h1:k=1
   ·subst h1;simp at hz;subst hz;go_wp2_with fail;go_roundw
    case rel=>exact ⟨1+1,z+m,by omega,by go_num,by go_num,rfl,trivial⟩
    case measure=>simp [intOf]
   ·obtain rfl:k=0:=by omega
    simp at hz;subst hz;go_wp2_with fail;go_roundw
    case rel=>exact ⟨0+1,n,by omega,by go_num,by go_num,rfl,trivial⟩
    case measure=>simp [intOf]
end
section
open Go.RowKit
end
section
open Go.RowKit
def oh (a:Array (Nat × Value)):Sem Value:=Instr.build 26 a
theorem kJ (a:Array (Nat × Value)):Instr.build 26 a=oh a:=rfl
theorem zcO (a b:Option Addr) (n c m d:Nat) (w:World):(oh #[(0,.slice a n c),(1,.slice b m d)]).run Tryz.prog w = .ok (.agg #[.slice a n c,.slice b m d]) w:=by kernel_rfl
theorem vK (a:Option Addr) (n c:Nat) (w:World):(oh #[(0,.slice a n c)]).run Tryz.prog w = .ok (.agg #[.slice a n c,.slice none 0 0]) w:=by kernel_rfl
theorem zcP (w:World):(oh #[]).run Tryz.prog w = .ok (.agg #[.slice none 0 0,.slice none 0 0]) w:=by kernel_rfl
def D3 (a:Array (Nat × Value)):Sem Value:=Instr.build 84 a
theorem zdM (a:Array (Nat × Value)):Instr.build 84 a=D3 a:=rfl
theorem bM (s:ByteArray) (p:Pv) (w:World):(D3 #[(0,.string s),(1,.agg (PC p))]).run Tryz.prog w = .ok (.agg (ReC (mkR ⟨s,p⟩))) w:=by kernel_rfl
def D1 (a:Array (Nat × Value)):Sem Value:=Instr.build 66 a
theorem zdN (a:Array (Nat × Value)):Instr.build 66 a=D1 a:=rfl
theorem zbh (a b q:Int) (s:ByteArray) (w:World):(D1 #[(0,.agg #[.int .i64 a,.int .i64 b]),(1,.string s),(2,.int .i64 q)]).run Tryz.prog w = .ok (.agg #[.int .i64 a,.int .i64 b,.string s,.int .i64 q]) w:=by kernel_rfl
def D5 (a:Array (Nat × Value)):Sem Value:=Instr.build 64 a
theorem zdO (a:Array (Nat × Value)):Instr.build 64 a=D5 a:=rfl
theorem zbi (a b:Int) (w:World):(D5 #[(0,.int .i64 a),(1,.int .i64 b)]).run Tryz.prog w = .ok (.agg #[.int .i64 a,.int .i64 b]) w:=by kernel_rfl
def tJ (a:Array (Nat × Value)):Sem Value:=Instr.build 69 a
theorem zfd (a:Array (Nat × Value)):Instr.build 69 a=tJ a:=rfl
theorem zcM (a b c:Int) (w:World):(tJ #[(0,.int .i64 a),(1,.int .i64 b),(2,.int .i64 c)]).run Tryz.prog w = .ok (.agg #[.int .i64 a,.int .i64 b,.int .i64 c]) w:=by kernel_rfl
end
section
open Go.RowKit Go.Maps Go.Sort
attribute [local go_sem ↓] zl zk zR zQ zdM bM
attribute [local go_sem] zf zh zy zH zT
def CpA (w w':World) (x:Ending) (r:Rc):Prop:=∃ c:Rc,x = .returned (ReV (mkR c))/\c.s=r.s/\dp w' c/\de w.heap.size c.p/\Below w.heap.size w w'/\ae (aa r.p.P) c.p.P
theorem jO (r:Rc) (w:World) (hR:dp w r):Calls Tryz.prog 62 #[ReV (mkR r)] w fun x w'=>CpA w w' x r:=by
 have b1:=ze w (.cells (ReC (mkR r)) 84);have b2:=ze (w.alloc (.cells (ReC (mkR r)) 84)) (.cells (ReC re0) 84);have fq:=hide ((xf w (mkR r)).below b2);have X2:=xf (w.alloc (.cells (ReC (mkR r)) 84)) re0;rw [World.size_alloc] at X2;have fL:=hide X2;have az:=hide (b1.trans (b2.mono b1.size));have HS:=hide (hR.1.below az.out);have HZ:Hid (r.s.size <= maxLen):=hR.2;clear b1 b2 X2 hR;obtain ⟨wk,cq⟩:∃ wk,(w.alloc (.cells (ReC (mkR r)) 84)).alloc (.cells (ReC re0) 84)=wk:=⟨_,rfl⟩;obtain ⟨G,HG⟩:∃ G,Hid (w.heap.size=G):=⟨_,rfl⟩;have hG:=HG.out;rw [cq] at fq fL az HS;rw [hG] at fq fL
 have aw:Hid (∀ W:World,W.heap[G]? = wk.heap[G]? -> W.cell? ⟨G,0,none⟩=some (.string r.s)/\(ldP (.pointer (some ⟨G,1,none⟩))).run Tryz.prog W = .ok (.agg #[.slice r.p.vo r.p.vn r.p.vc,.slice r.p.co r.p.cn r.p.cc]) W):=fun W h=>by
  have X:aY W G (mkR r):=h.trans fq.out;exact ⟨X.sk,zi X.past⟩
 go_enter Tryz.func62,Tryz.ntmps62;go_upto_region 1 with fail;clear cq;refine wp_region_held_drew (S:=fun W=>W.cell? ⟨G,0,none⟩=some (.string r.s)/\(ldP (.pointer (some ⟨G,1,none⟩))).run Tryz.prog W = .ok (.agg #[.slice r.p.vo r.p.vn r.p.vc,.slice r.p.co r.p.cn r.p.cc]) W) (by kernel_rfl) (aw.out _ rfl) (fun hHeld=>?_);refine wU 0 ?_;refine wU 1 ?_;refine wU 2 ?_;refine wU 3 ?_;refine wR 4 fun K hK=>?_;go_simp;go_wp2_with fail;refine (kO r.p _ (HS.out.below (zd wk))).mono ?_;rintro x w3 ⟨c,rfl,Sc,Nc,b3,Cc⟩;have b03:Below wk.heap.size wk w3:=(zd wk).trans b3;have z3:w3.heap[G]? = wk.heap[G]?:=b03.block G fq.out.lt;refine hK.out _ _ (aw.out _ z3) (fun hHeld=>?_);clear hK K;have X3:aY w3 (G+1) re0:=fL.out.below b03;have t3:=zbb (m':=mkR ⟨r.s,c⟩) X3
 have X4:aY (w3.setRow (G+1) (ReC (mkR ⟨r.s,c⟩))) (G+1) (mkR ⟨r.s,c⟩):=setRow_heap _ _ _ _ _ _ X3;have z4:(w3.setRow (G+1) (ReC (mkR ⟨r.s,c⟩))).heap[G]? = wk.heap[G]?:=(setRow_other _ _ _ _ (by omega)).trans z3;have aq:G+1 < wk.heap.size:=fL.out.lt;have S4:ak (w3.setRow (G+1) (ReC (mkR ⟨r.s,c⟩))) c:=xI (g:=some (G+1)) Sc (fun k e=>by obtain rfl:=Option.some.inj e;exact df.new Nc aq) (fun q _ hq=>setRow_other _ _ _ _ (fun e=>hq (by rw [e])));have HE:Hid (CpA w (w3.setRow (G+1) (ReC (mkR ⟨r.s,c⟩))) (.returned (ReV (mkR ⟨r.s,c⟩))) r):=⟨⟨r.s,c⟩,rfl,rfl,⟨S4,HZ.out⟩,Nc.mono (by have:=az.out.size;exact this),zg (az.out.trans (b03.mono az.out.size)) (by omega),Cc⟩;have eC:=hide X4;clear Sc Nc b3 b03 Cc X3 X4 S4 aq;refine wU 5 ?_;refine wR 6 fun K hK=>?_
 go_simp;refine hK.out _ _ (aw.out _ z4) (fun hHeld=>?_);clear hK K;refine wD ?_ _;clear hHeld;clear t3 z3 z4;go_wp2_with fail;refine bodyPost_ret (Ak rfl rfl eC.out) rfl ?_;exact HE.out
def SoA (w w':World) (x:Ending) (r:Rc):Prop:=∃ (h:Hs) (c:Rc),x = .returned (.tuple #[HsV h,.int .i64 0])/\RcS w' h.o 1 h.c [c]/\h.n=1/\c.s=r.s/\Below w.heap.size w w'/\ae (aa r.p.P) c.p.P
def SoI (w W:World) (k:Nat) (x:Hs) (r:Rc):Prop:=∃ C,aL w.heap.size w W x C/\((k=0/\C=[]/\x.n=0)∨(1 <= k/\x.n=1/\∃ c,C=[c]/\c.s=r.s/\ae (aa r.p.P) c.p.P))
end
end Go.Proofs.YtcilfelgpmfehaaGreat
