/- LSor LSo2 LShg LCct LUn TFg SXk HNa -/
import Derived.Test.YtcilfelgpmfehaaGreatBj22
import Derived.Lib.SliceRun
import Derived.Shelf.Spec.SlicesGrow
import Derived.Laws.AppendOwnNone
import Derived.Deep.LoopGhost
set_option maxRecDepth 100000
set_option maxHeartbeats 4000000
namespace Go.Proofs.YtcilfelgpmfehaaGreat.K
section
open Go.RowKit Go.Lib
attribute [local go_sem ↓] zu zt
attribute [local go_sem] zC zs zB
def ll:List En -> Int
 | []=>0
 | e :: r=>if ceE e=0 then ll r else ceE e
def Nn (L:List En) (k:Nat):Prop:=∀ i,i < k -> ceE (L.getD i en0)=0
def uR (L R:List En) (er:Int):Prop:=(ll L≠0/\R=[]/\er=ll L)∨(ll L=0/\dh L R er)
def Ii (w w':World) (e:Ending) (L:List En):Prop:=∃ ao n c R er,e = .returned (.tuple #[.slice ao n c,.int .i64 er])/\aF w' ao n c R/\Below w.heap.size w w'/\(∀ ad,ao=some ad -> w.heap.size <= ad.block)/\uR L R er
theorem aF.cells {w:World} {ad:Addr} {n cap:Nat} {L:List En} (hS:aF w (some ad) n cap L) (j:Nat) (u:Value) (hj:(ecs L)[j]? = some u):w.cell? (ad.add j)=some u:=by
 have iy:j < L.length * 4:=by have:=(List.getElem?_eq_some_iff.1 hj).1;rwa [xC] at this
 have e4:=zbD L (j / 4) (j % 4) (by omega) (by omega);rw [show j / 4 * 4+j % 4=j by omega,hj] at e4;have A:=hS.2.2.1 ad rfl (j / 4) (by rw [<- hS.1];omega)
 have:j % 4=0∨j % 4=1∨j % 4=2∨j % 4=3:=by omega
 rcases this with h | h | h | h
 ·rw [h] at e4;rw [show j=j / 4 * 4 by omega,A.c0];exact e4.symm
 ·rw [h] at e4;have:=A.c1;rw [qt] at this;rw [show j=j / 4 * 4+1 by omega,this];exact e4.symm
 ·rw [h] at e4;have:=A.c2;rw [qt] at this;rw [show j=j / 4 * 4+2 by omega,this];exact e4.symm
 ·rw [h] at e4;have:=A.c3;rw [qt] at this;rw [show j=j / 4 * 4+3 by omega,this];exact e4.symm
theorem j4 (L:List En):∀ u∈ecs L,u.oneCell'=true:=by
 intro u hu;obtain ⟨l,hl,hv⟩:=List.mem_flatten.1 hu;obtain ⟨e,_,rfl⟩:=List.mem_map.1 hl;exact yv e u hv
theorem zdC (ad:Addr) (n cap:Nat) (L:List En) (w:World) (hS:aF w (some ad) n cap L) :
  Calls Tryz.prog 70 #[.slice (some ad) n cap] w fun e w'=>∃ ao c,e = .returned (.slice ao n c)/\cY w.heap.size w.heap.size w w' ao c L:=by
 obtain ⟨i0,hi,dn,dm,ef⟩:=info_parts iu;have q22:∀ w,(binOp .eql 22 (.slice (some ad) n cap) (.slice none 0 0)).run Tryz.prog w = .ok (.bool false) w:=fun w=>Lib.run_eql_slice_nil w _ _ (some ad) n cap 0 0 Tryz.underlying22;have HS:=hide hS;clear hS;go_enter Tryz.func70,Tryz.ntmps70;go_wp2_with (at_builtin;refine wpList_append_own _ rfl _ _ 22 rfl w.heap.size 66 i0 (.agg #[.int .i64 0,.int .i64 0,.string ⟨#[]⟩,.int .i64 0]) 4 40 Tryz.underlying22 hi dn dm ef rfl (by decide) _ _ _ rfl (World.ownsRow_made w #[] 0 (Nat.le_refl _) (Nat.zero_le _) (by simp)) ad n cap (ecs L) rfl ?qc1 ?qc2 ?qc3 ?qc4 ?qc5 ?qc6 ?_)
 case qc1=>rw [xC,HS.out.1]
 case qc2 =>
  intro j u hj;have:=HS.out.cells j u hj;rw [(ze w _).cell (World.block_lt_of_cell? _ _ this)];exact this
 case qc3=>exact j4 L
 case qc4=>rw [Nat.zero_add];unfold maxLen;have:=HS.out.2.2.2.2;omega
 case qc5=>rw [Nat.zero_add];have:=HS.out.2.2.2.2;omega
 case qc6=>simp
 intro v' w1 cp aC ej
 have o8:w1.ownsRow w.heap.size 66 4 v' n (ecs L):=by simpa using cp
 have hb:Below w.heap.size w w1:=((Below.refl _ w).alloc (Nat.le_refl _) _).grown aC (by simp) (by intro k hk;simp [Value.ownBlock] at hk;omega)
 have HF:Hid (∃ ao c,v' = .slice ao n c/\cY w.heap.size w.heap.size w w1 ao c L):=by
  rcases o8.2 with ⟨h0,_⟩ | ⟨g,c,cur,rfl,r⟩
  ·exact absurd h0 ej
  ·exact ⟨some ⟨g,0,none⟩,c,rfl,by rw [HS.out.1];exact o8,hb,hb.size,Nat.le_refl _⟩
 clear cp o8 aC ej hb;go_wp2_with fail;go_ret;obtain ⟨ao,c,rfl,h⟩:=HF.out;exact ⟨ao,c,rfl,h⟩
theorem zdB (w:World):Calls Tryz.prog 70 #[.slice none 0 0] w fun e w'=>e = .returned (.slice none 0 0)/\w'=w:=by
 have q22:∀ w,(binOp .eql 22 (.slice none 0 0) (.slice none 0 0)).run Tryz.prog w = .ok (.bool true) w:=fun w=>Lib.run_eql_slice_nil w _ _ none 0 0 0 0 Tryz.underlying22;go_enter Tryz.func70,Tryz.ntmps70;go_wp2_with fail;go_ret;exact ⟨rfl,rfl⟩
theorem cY.mr {B0 B:Nat} {w w':World} {ad:Addr} {cap:Nat} {acc:List En} (O:cY B0 B w w' (some ad) cap acc):MR w' ad acc.toArray/\acc.length <= cap/\cap <= 9223372036854775807/\B <= ad.block:=by
 rcases O.own.2 with ⟨h0,_⟩ | ⟨g,c,cur,hv,dV,dB,hnc,fw,hcsz,htake⟩
 ·cases h0
 ·simp only [Value.slice.injEq,Option.some.injEq,true_and] at hv;obtain ⟨rfl,rfl⟩:=hv;refine ⟨⟨fun j hj=>?_,(Array.getElem?_eq_some_iff.1 dB).1,rfl⟩,hnc,by unfold maxLen at fw;omega,dV⟩;rw [Sort.size_flatK] at hj
  have IV:j < acc.length * 4:=by simpa using hj
  refine ⟨?_,by simp [World.frozen?,dB]⟩;rw [Nat.zero_add,O.own.cellAt j (by omega),Sort.get_flatK _ _ _ _ hj];have e4:=zbD acc (j / 4) (j % 4) (by omega) (by omega);rw [show j / 4 * 4+j % 4=j by omega] at e4;rw [e4]
  have e5:acc.toArray[j / 4]! = acc.getD (j / 4) en0:=by
   rw [getElem!_pos acc.toArray (j / 4) (by simp;omega)];simp [List.getD,show j / 4 < acc.length by omega]
  rw [e5]
  have:j % 4=0∨j % 4=1∨j % 4=2∨j % 4=3:=by omega
  rcases this with h | h | h | h <;> rw [h] <;> rfl
end
section
open Go.RowKit Go.Lib
attribute [local go_sem ↓] zu zt
attribute [local go_sem] zC zs zB
end
end Go.Proofs.YtcilfelgpmfehaaGreat.K
namespace Go.Proofs
open Go.Shelf
def Tryz.growEn_ren:Go.Shelf.Ren:=⟨fun | 4=>85 | n=>n,fun | 22=>22 | 25=>66 | 3=>3 | 4=>4 | 9=>9 | 20=>20 | 0=>0 | n=>n,fun | n=>n⟩
theorem Tryz.growEn:Go.Proofs.Lays8.n4 Tryz.prog Tryz.growEn_ren:={
 mixed:=by kernel_rfl
 f4:=⟨Tryz.f85.name,by decide,Tryz.func85.trans (congrArg some (by kernel_rfl))⟩
 t0:=Tryz.underlying0
 a0:=Tryz.isAgg0
 z0:=Tryz.sizeOf0
 v0:=Tryz.zeroValue0
 t3:=Tryz.underlying3
 a3:=Tryz.isAgg3
 z3:=Tryz.sizeOf3
 v3:=Tryz.zeroValue3
 t4:=Tryz.underlying4
 a4:=Tryz.isAgg4
 z4:=Tryz.sizeOf4
 v4:=Tryz.zeroValue4
 t9:=Tryz.underlying9
 a9:=Tryz.isAgg9
 z9:=Tryz.sizeOf9
 v9:=Tryz.zeroValue9
 t20:=Tryz.underlying20
 a20:=Tryz.isAgg20
 z20:=Tryz.sizeOf20
 v20:=Tryz.zeroValue20
 t22:=Tryz.underlying22
 a22:=Tryz.isAgg22
 z22:=Tryz.sizeOf22
 v22:=Tryz.zeroValue22 }
end Go.Proofs
namespace Go.Proofs.YtcilfelgpmfehaaGreat.K
section
open Go.RowKit Go.Lib

theorem zfH (n:Nat):(Builtin.zeroCells (EC en0) n).size=n * 4:=by simp [Builtin.zeroCells,zB]
theorem zd (w:World):Below w.heap.size w w.drew:=⟨rfl,rfl,rfl,Nat.le_refl _,fun _ _=>rfl⟩
theorem zeE (n:Nat) (w:World) (hn:n <= 3518437208883):Calls Tryz.prog 85 #[.slice none 0 0,.int .i64 n] w fun e w'=>∃ ao c,e = .returned (.slice ao 0 c)/\cY w.heap.size w.heap.size w w' ao c []:=by
 by_cases h0:n=0
 ·subst h0;refine Calls.mono (Any8.slices_Grow_room Tryz.growEn none 0 0 0 w (Nat.le_refl _) (by omega) (by omega) (Nat.le_refl _)) ?_;rintro e w' ⟨rfl,rfl⟩;exact ⟨none,0,rfl,cY.nil (Below.refl _ _) (Nat.le_refl _) (Nat.le_refl _)⟩
 ·obtain ⟨i0,hi,dn,dm,ef⟩:=info_parts iu;have h:=Any8.slices_Grow_grow Tryz.growEn i0 _ hi dn (by rw [dm];omega) none 0 0 n [] w (Nat.le_refl _) (by omega) (by rw [ef];omega) (by omega) (by simp) (fun _=>rfl) (fun a ha=>by cases ha);rw [show Tryz.growEn_ren.t 25=66 from rfl] at h;refine Calls.mono h ?_;rintro e w' ⟨rfl,rfl⟩;have sZ:=grownCap_ge w (0+n) 0 66;have m9:=grownCap_le_maxLen w (0+n) 0 66 (by unfold maxLen;omega);refine ⟨some ⟨w.heap.size,0,none⟩,grownCap w (0+n) 0 66,rfl,⟨rfl,Or.inr ⟨w.heap.size,grownCap w (0+n) 0 66,_,rfl,Nat.le_refl _,heap_alloc_new w.drew _,Nat.zero_le _,m9,?_,by simp [ecs]⟩⟩,(zd w).trans ((ze w.drew _).mono (Nat.le_refl _)),by simp,Nat.le_refl _⟩
  have hc:(Value.agg #[.int .i64 0,.int .i64 0,.string ⟨#[]⟩,.int .i64 0]).cells=EC en0:=by simp [Value.cells];rfl
  rw [hc];simp only [Array.size_append,zfH];rw [Nat.zero_add] at sZ ⊢;simp;omega
theorem cY.appendAll {B0 B:Nat} {w w':World} {ao:Option Addr} {cap:Nat} {acc:List En} (O:cY B0 B w w' ao cap acc) (bo:Option Addr) (m c:Nat) (R:List En) (hR:aF w' bo m c R) (cP:acc.length+m <= 3518437208883)
  {ops:Array Oper} {rest:List Oper} {o:Oper} {a:Act} {Q:Exit -> Act -> World -> Prop} (hgd:o.guard=none) (s x:Operand) (ho:o.op = .call { callee:=.builtin .append,args:=#[s,x],argTypes:=#[22,22] })
  (n:Nat) (hn:acc.length=n) (hs:a.eval s = .slice ao n cap) (hx:a.eval x = .slice bo m c)
  (hK:∀ (ap:Option Addr) (cap2:Nat) (w2:World),cY B0 B w w2 ap cap2 (acc++R) -> wpList Tryz.prog ops Q rest (a.put o.dst (.slice ap (n+m) cap2)) w2) :
  wpList Tryz.prog ops Q (o :: rest) a w':=by
 subst hn;obtain ⟨i0,hi,dn,dm,ef⟩:=info_parts iu;have hB:=O.hB;have hB0:=O.hB0
 cases bo with
 | none =>
  obtain ⟨rfl,rfl⟩:=hR.2.1 rfl;obtain rfl:R=[]:=List.eq_nil_of_length_eq_zero hR.1;refine wpList_append_own_none hgd s x 22 ho B 66 i0 4 Tryz.underlying22 hi _ acc.length (ecs acc) hs O.own hx ?_;have:=hK ao cap w' (by rw [List.append_nil];exact O);exact this
 | some ad =>
  refine wpList_append_own _ hgd s x 22 ho B 66 i0 (.agg #[.int .i64 0,.int .i64 0,.string ⟨#[]⟩,.int .i64 0]) 4 40 Tryz.underlying22 hi dn dm ef rfl (by decide) _ acc.length (ecs acc) hs O.own ad m c (ecs R) hx (by rw [xC,hR.1]) (fun j u hj=>hR.cells j u hj) (j4 R) (by unfold maxLen;omega) (by omega) hB ?_;intro v' w2 cp aC _;have dv:∀ k,(Value.slice ao acc.length cap).ownBlock=some k -> B <= k:=fun k hk=>(O.own.lt k hk).1;have eE:=aC.size;have gV:Below B0 w w2:=O.below.grown aC (by omega) (fun k hk=>by have:=dv k hk;omega);have hm:m=R.length:=hR.1.symm
  have dw:w2.ownsRow B 66 4 v' (acc++R).length (ecs (acc++R)):=by rw [List.length_append,kI,<- hm];exact cp
  rcases cp.2 with ⟨h0,eU⟩ | ⟨g,cap2,cur,hv,r⟩
  ·subst h0;have e0:acc.length+m=0:=eU;have:=hK none 0 w2 ⟨by rw [List.length_append,<- hm,e0] at dw;rw [List.length_append,<- hm,e0];exact dw,gV,by omega,hB0⟩;rwa [e0] at this
  ·subst hv;exact hK (some ⟨g,0,none⟩) cap2 w2 ⟨by rw [List.length_append,<- hm] at dw ⊢;exact dw,gV,by omega,hB0⟩
theorem zcg (gb:Nat) (ao bo:Option Addr) (n cap m cap':Nat) (L R:List En) (w:World) (hS:aF w ao n cap L) (hR:aF w bo m cap' R) (c0:w.cell? ⟨gb,0,none⟩=some (.slice ao n cap)) (c1:w.cell? ⟨gb,1,none⟩=some (.slice bo m cap')) (cP:n+m <= 3518437208883) :
  Calls Tryz.prog 59 #[.slice (some ⟨gb,0,none⟩) 2 2] w fun e w'=>∃ ap c,e = .returned (.slice ap (n+m) c)/\cY w.heap.size w.heap.size w w' ap c (L++R):=by
 have HS:=hide hS;have HR:=hide hR;have HL:Hid (L.length=n):=hS.1;have FD:Hid (R.length=m):=hR.1;have lG:=hide c0;have fS:=hide c1;clear hS hR;go_enter Tryz.func59,Tryz.ntmps59;go_wp2_with fail;go_loopw [3,5,11] (fun s _ i wr=>∃ k z:Nat,k <= 2/\s = .int .i64 z/\i = .int .i64 k/\z=(if k=0 then 0 else if k=1 then n else n+m)/\w=wr) (fun _ _ i _=>2 - (intOf i).toNat)
 case atStart=>exact ⟨0,0,Nat.zero_le _,rfl,rfl,rfl,rfl⟩
 case round =>
  obtain ⟨k,z,hk,rfl,rfl,hz,rfl⟩:=hrel;by_cases h2:k=2
  ·subst h2;simp at hz;subst hz;clear c0 c1;go_wp2_with fail;refine (zeE (n+m) _ cP).mono ?_;rintro e w3 ⟨a3,c3,rfl,O3⟩;have tQ:=hide O3;clear O3;go_wp2_with fail;go_loopw [6,8,27] (fun v _ i wr=>∃ (k:Nat) (ap:Option Addr) (c:Nat) (acc:List En),k <= 2/\v = .slice ap acc.length c/\i = .int .i64 k/\Hid (acc=(if k=0 then [] else if k=1 then L else L++R)/\cY w.heap.size w.heap.size w wr ap c acc)) (fun _ _ i _=>2 - (intOf i).toNat)
   case atStart=>exact ⟨0,a3,c3,[],Nat.zero_le _,rfl,rfl,rfl,tQ.out⟩
   case round =>
    clear tQ;obtain ⟨k,ap,c,acc,hk,rfl,rfl,H⟩:=hrel
    rename World=>w4
    have d0:w4.cell? ⟨gb,0,none⟩=some (.slice ao n cap):=by rw [H.out.2.below.cell (World.block_lt_of_cell? _ _ lG.out)];exact lG.out
    have d1:w4.cell? ⟨gb,1,none⟩=some (.slice bo m cap'):=by rw [H.out.2.below.cell (World.block_lt_of_cell? _ _ fS.out)];exact fS.out
    by_cases h2:k=2
    ·subst h2
     have HF:Hid (∃ c',(Value.slice ap acc.length c:Value) = .slice ap (n+m) c'/\cY w.heap.size w.heap.size w w4 ap c' (L++R)):=by
      have e:acc=L++R:=H.out.1;rw [e,List.length_append,HL.out,FD.out];exact ⟨c,rfl,by rw [<- e];exact H.out.2⟩
     clear d0 d1;go_wp2_with fail;go_ret;obtain ⟨c',e1,e2⟩:=HF.out;exact ⟨ap,c',by rw [e1];rfl,e2⟩
    ·by_cases h1:k=1
     ·subst h1;have e:acc=L:=H.out.1
      have oG:acc.length=n:=by rw [e];exact HL.out
      have KZ:=hide (HR.out.below H.out.2.below);go_wp2_with (at_builtin;refine H.out.2.appendAll bo m cap' R KZ.out (by omega) rfl (.tmp 31) (.tmp 32) rfl acc.length rfl rfl rfl ?_;intro a5 c5 w5 O5);go_roundw
      case rel=>exact ⟨1+1,a5,c5,acc++R,by omega,by simp [List.length_append,FD.out,HL.out,e],by go_num,by rw [e];rfl,O5⟩
      case measure=>simp [intOf]
     ·obtain rfl:k=0:=by omega
      have e:acc=[]:=H.out.1
      have oG:acc.length=0:=by rw [e];rfl
      have iK:=hide (HS.out.below H.out.2.below);go_wp2_with (at_builtin;refine H.out.2.appendAll ao n cap L iK.out (by omega) rfl (.tmp 31) (.tmp 32) rfl acc.length rfl rfl rfl ?_;intro a5 c5 w5 O5);go_roundw
      case rel=>exact ⟨0+1,a5,c5,acc++L,by omega,by simp [HL.out,e],by go_num,by rw [e];rfl,O5⟩
      case measure=>simp [intOf]
  ·by_cases h1:k=1
   ·subst h1;simp at hz;subst hz;go_wp2_with fail;go_roundw
    case rel=>exact ⟨1+1,z+m,by omega,by go_num,by go_num,rfl,trivial⟩
    case measure=>simp [intOf]
   ·obtain rfl:k=0:=by omega
    simp at hz;subst hz;go_wp2_with fail;go_roundw
    case rel=>exact ⟨0+1,n,by omega,by go_num,by go_num,rfl,trivial⟩
    case measure=>simp [intOf]
end
section
open Go.RowKit Go.Lib
attribute [local go_sem ↓] zu zt
attribute [local go_sem] zC zs zB xX
def lm (A B R:List En) (er:Int):Prop:=(¬ (chk A=0/\chk B=0)/\R=[]/\er=1)∨((chk A=0/\chk B=0)/\dh (A++B) R er)
def uY (w w':World) (e:Ending) (A B:List En):Prop:=∃ ao n c R er,e = .returned (.tuple #[.slice ao n c,.int .i64 er])/\aF w' ao n c R/\Below w.heap.size w w'/\lm A B R er
def gU (w w':World) (e:Ending) (A B:List En):Prop:=∃ ao n c R er,e = .returned (.tuple #[.slice ao n c,.int .i64 er])/\aF w' ao n c R/\Below w.heap.size w w'/\(∀ ad,ao=some ad -> w.heap.size <= ad.block)/\lm A B R er
theorem lS {w w':World} {A B:List En} (h:¬ (chk A=0/\chk B=0)) (hb:Below w.heap.size w w'):gU w w' (.returned (.tuple #[.slice none 0 0,.int .i64 1])) A B:=
 ⟨none,0,0,[],1,rfl,aF.none _,hb,fun ad h=>(by cases h),Or.inl ⟨h,rfl,rfl⟩⟩
theorem wF (ao bo:Option Addr) (n cap m cap':Nat) (A B:List En) (w:World) (hS:aF w ao n cap A) (hR:aF w bo m cap' B) :
  Calls Tryz.prog 33 #[.slice ao n cap,.slice bo m cap'] w fun e w'=>gU w w' e A B:=by
 have HS:=hide hS;have HR:=hide hR;clear hS hR;obtain ⟨p,Hp⟩:∃ p,Hid (chk A=p):=⟨_,rfl⟩;obtain ⟨q,Hq⟩:∃ q,Hid (chk B=q):=⟨_,rfl⟩;by_cases h1:p=0
 ·by_cases h2:q=0
  ·have HA:Hid (chk A=0/\chk B=0):=⟨Hp.out.trans h1,Hq.out.trans h2⟩
   have d1:(p != 0)=false:=by simpa using h1
   have d2:(q != 0)=false:=by simpa using h2
   have cP:n+m <= 3518437208883:=by
    have l1:=zdD HA.out.1;have l2:=zdD HA.out.2;rw [HS.out.1] at l1;rw [HR.out.1] at l2;omega
   clear h1 h2;go_enter Tryz.func33,Tryz.ntmps33;go_wp2_with fail;refine (qu ao n cap A _ HS.out).mono ?_;rintro e w1 ⟨rfl,b1⟩;rw [Hp.out];have aW:=hide b1;clear b1;go_wp2_with fail;refine (qu bo m cap' B _ (HR.out.below aW.out)).mono ?_;rintro e w2 ⟨rfl,b2⟩;rw [Hq.out];have cd:=wTr aW b2;clear b2;go_wp2_with fail;have B3:=ze w2 (.cells #[.slice ao n cap,.slice bo m cap'] 22)
   have k0:(w2.alloc (.cells #[.slice ao n cap,.slice bo m cap'] 22)).cell? ⟨w2.heap.size,0,none⟩=some (.slice ao n cap):=by simp
   have k1:(w2.alloc (.cells #[.slice ao n cap,.slice bo m cap'] 22)).cell? ⟨w2.heap.size,1,none⟩=some (.slice bo m cap'):=by simp
   have aN:=wTr cd B3;refine (zcg w2.heap.size ao bo n cap m cap' A B _ (HS.out.below aN.out) (HR.out.below aN.out) k0 k1 cP).mono ?_;rintro e w4 ⟨a4,c4,rfl,O4⟩;have rf:=hide O4;have aR:=wTr aN O4.below;have HZ:Hid (w.heap.size <= (w2.alloc (.cells #[.slice ao n cap,.slice bo m cap'] 22)).heap.size):=aN.out.size
   have gL:∀ e∈A++B,e.sku.size <= maxLen:=fun e he=>by
    rcases List.mem_append.1 he with h | h
    ·exact HS.out.2.2.2.1 e h
    ·exact HR.out.2.2.2.1 e h
   have pY:=hide gL
   have uM:Hid ((A++B).length=n+m):=by show _=_;rw [List.length_append,HS.out.1,HR.out.1]
   clear O4 B3 k0 k1 gL
   cases a4 with
   | none =>
    obtain ⟨S4,_⟩:=rf.out.src pY.out (by rw [uM.out];exact cP);obtain ⟨e1,rfl⟩:=S4.2.1 rfl;have HE:Hid (A++B=[]):=List.eq_nil_of_length_eq_zero e1
    have lC:n+m=0:=by rw [<- uM.out];exact e1
    rw [lC];clear S4 e1;go_wp2_with fail;refine (sG none 0 _).mono ?_;rintro e w6 ⟨rfl,b6⟩;have HN:Hid (gU w w6 (.returned (.tuple #[.slice none 0 0,.int .i64 0])) A B):=⟨none,0,0,[],0,rfl,aF.none _,aR.out.trans (b6.mono aR.out.size),fun ad h=>(by cases h),Or.inr ⟨HA.out,by rw [HE.out];exact zaC⟩⟩;clear b6;go_wp2_with fail;go_ret2;exact HN.out
   | some a4 =>
    obtain ⟨M4,tV,oF,mC⟩:=rf.out.mr;have iC:=hide M4
    have fS:Hid (n+m <= c4):=by show _ <= _;rw [<- uM.out];exact tV
    have i5:=hide oF;have EE:Hid (w.heap.size <= a4.block):=Nat.le_trans HZ.out mC;clear M4 tV oF mC;go_wp2_with fail;refine (zb2 a4 c4 (n+m) (A++B).toArray _ iC.out (by rw [List.size_toArray];exact uM.out) cP fS.out i5.out (by simpa using pY.out)).mono ?_;rintro e w6 ⟨a6,n6,c6,R6,er,rfl,S6,b6,f6,t6⟩
    have HN:Hid (gU w w6 (.returned (.tuple #[.slice a6 n6 c6,.int .i64 er])) A B):=
     ⟨a6,n6,c6,R6,er,rfl,S6,aR.out.trans (b6.mono EE.out),fun ad h=>Nat.le_trans EE.out (f6 ad h),Or.inr ⟨HA.out,by simpa using t6⟩⟩
    clear S6 b6 f6 t6;go_wp2_with fail;go_ret2;exact HN.out
  ·have HX:Hid (¬ (chk A=0/\chk B=0)):=fun h=>h2 (Hq.out.symm.trans h.2)
   have d1:(p != 0)=false:=by simpa using h1
   have d2:(q != 0)=true:=by simpa using h2
   clear h1 h2;go_enter Tryz.func33,Tryz.ntmps33;go_wp2_with fail;refine (qu ao n cap A _ HS.out).mono ?_;rintro e w1 ⟨rfl,b1⟩;rw [Hp.out];have aW:=hide b1;clear b1;go_wp2_with fail;refine (qu bo m cap' B _ (HR.out.below aW.out)).mono ?_;rintro e w2 ⟨rfl,b2⟩;rw [Hq.out];have cd:=wTr aW b2;clear b2;go_wp2_with fail;go_ret2;exact lS HX.out cd.out
 ·have HX:Hid (¬ (chk A=0/\chk B=0)):=fun h=>h1 (Hp.out.symm.trans h.1)
  have d1:(p != 0)=true:=by simpa using h1
  clear h1;go_enter Tryz.func33,Tryz.ntmps33;go_wp2_with fail;refine (qu ao n cap A _ HS.out).mono ?_;rintro e w1 ⟨rfl,b1⟩;rw [Hp.out];have aW:=hide b1;clear b1;go_wp2_with fail;go_ret2;exact lS HX.out aW.out
theorem zcv (ao bo:Option Addr) (n cap m cap':Nat) (A B:List En) (w:World) (hS:aF w ao n cap A) (hR:aF w bo m cap' B) :
  Calls Tryz.prog 33 #[.slice ao n cap,.slice bo m cap'] w fun e w'=>uY w w' e A B:=by
 refine (wF ao bo n cap m cap' A B w hS hR).mono ?_;rintro e w' ⟨a,n,c,R,er,h1,h2,h3,-,h4⟩;exact ⟨a,n,c,R,er,h1,h2,h3,h4⟩
end
end Go.Proofs.YtcilfelgpmfehaaGreat.K
namespace Go.Proofs.YtcilfelgpmfehaaGreat
section
open Go.RowKit
structure FcN (N:Nat) (f:Fc):Prop where
 a:∀ ad,f.ao=some ad -> N <= ad.block
 p:de N f.p
 r:∀ ad,f.ro=some ad -> N <= ad.block
 q:∀ c∈f.rs,de N c.p
theorem FcN.mono {N M:Nat} {f:Fc} (h:FcN N f) (hm:M <= N):FcN M f:=⟨fun ad e=>Nat.le_trans hm (h.a ad e),h.p.mono hm,fun ad e=>Nat.le_trans hm (h.r ad e),fun c hc=>(h.q c hc).mono hm⟩
def FcR (f:Fc):Prop:=f.rn <= f.rc/\(f.ro=none -> f.rc=0)
theorem a8.row {w:World} {f:Fc} (h:a8 w f) (hr:FcR f):RcT w f.ro f.rn f.rc f.rs:=⟨h.rs,hr.1,hr.2⟩
theorem a8.off2 {w w':World} {f:Fc} {N:Nat} (h:a8 w f) (hn:FcN N f) (hk:∀ k,N <= k -> w'.heap[k]? = w.heap[k]?):a8 w' f:=
 ⟨h.es.kept (fun ad e=>hk _ (hn.a ad e)),ke h.p (fun ad e=>hk _ (hn.p.1 ad e)) (fun ad e=>hk _ (hn.p.2 ad e)),zfr h.rs (fun ad e=>hk _ (hn.r ad e)) (fun r hr=>⟨ke (h.rs.ok r hr).1 (fun ad e=>hk _ ((hn.q r hr).1 ad e)) (fun ad e=>hk _ ((hn.q r hr).2 ad e)),(h.rs.ok r hr).2⟩)⟩
theorem mM {w:World} {g:Nat} {fn:Func} {p q:Tmp} {m:ct} {v:Value} (h:fn.results=#[.cell p 29,.tmp q]) {tmps:Array Value} (hp:tmps.getD p undef = .pointer (some ⟨g,0,none⟩)) (hq:tmps.getD q undef=v) (A:aD w g m) :
  (results fn tmps).run Tryz.prog w = .ok (.tuple #[FaV m,v]) w:=by
 have hl:=yH A;simp only [results,h];rw [Array.getD_eq_getD_getElem?] at hp hq;simp [hp,hq,asAddr,hl]
def fz0:Fc:=⟨none,0,0,[],pv0,none,0,0,[]⟩
theorem zdk (w:World):a8 w fz0:=⟨⟨rfl,fun _=>⟨rfl,rfl⟩,fun ad h=>(by cases h),fun e he=>(by cases he),Nat.zero_le _⟩,ak.zero w,RcS.empty w⟩
theorem zdl (N:Nat):FcN N fz0:=⟨fun ad h=>(by cases h),⟨fun ad h=>(by cases h),fun ad h=>(by cases h)⟩,fun ad h=>(by cases h),fun c hc=>(by cases hc)⟩
theorem zaS:FcR fz0:=⟨Nat.le_refl _,fun _=>rfl⟩
theorem zF:(#[.slice none 0 0,.slice none 0 0,.slice none 0 0,.slice none 0 0]:Array Value)=FaC (mkF fz0):=rfl
def mR (a:Array (Nat × Value)):Sem Value:=Instr.build 29 a
theorem jC (a:Array (Nat × Value)):Instr.build 29 a=mR a:=rfl
theorem kc (w:World):(mR #[]).run Tryz.prog w = .ok (.agg (FaC (mkF fz0))) w:=by kernel_rfl
theorem wY (a b:Option Addr) (n c m d:Nat) (p:Pv) (w:World):(mR #[(0,.slice a n c),(1,.agg (PC p)),(2,.slice b m d)]).run Tryz.prog w = .ok (.agg #[.slice a n c,.slice p.vo p.vn p.vc,.slice p.co p.cn p.cc,.slice b m d]) w:=by kernel_rfl
def FcD (w w':World) (e:Ending) (D:Fc -> Int -> Prop):Prop:=∃ f er,e = .returned (.tuple #[FaV (mkF f),.int .i64 er])/\a8 w' f/\FcR f/\FcN w.heap.size f/\Below w.heap.size w w'/\D f er
theorem zaR {w W:World} {g:Nat} {m0:ct} {f:Fc} {er:Int} (D:Fc -> Int -> Prop) (hX:aD W g m0) (hF:a8 W f) (hr:FcR f) (hn:FcN (g+1) f) (hb:Below w.heap.size w W) (hg:w.heap.size <= g) (hD:D f er) :
  aD (W.setRow g (FaC (mkF f))) g (mkF f)/\FcD w (W.setRow g (FaC (mkF f))) (.returned (.tuple #[FaV (mkF f),.int .i64 er])) D:=
 ⟨hX.setRow,f,er,rfl,hF.off2 hn (fun k hk=>setRow_other _ _ _ _ (by omega)),hr,hn.mono (by omega),zg hb hg,hD⟩
theorem zdH {P Q:Pst} (hP:af P) (hQ:af Q):(1+P.cloud.length)+((1+Q.cloud.length)+0) <= 8796093022207:=by
 have h1:=(jB (zz.2 hP:ae (aa P) P)).1;have h2:=(jB (zz.2 hQ:ae (aa Q) Q)).1;omega
def sL (c:Int) (f g h:Fc) (er:Int):Prop:=(¬ (aB f/\aB g)/\er=1/\h=fz0)∨(aB f/\aB g/\∃ R e,K.lm f.es g.es R e/\((e≠0/\er=(if c=0 then e else c)/\h=fz0)∨(e=0/\er=0/\h.es=R/\ae (aA [f.p,g.p]) h.p.P/\gS f.rs g.rs h.rs/\h.rn <= f.rn+g.rn)))
theorem za1 {p q:Pv} (hP:af p.P) (hQ:af q.P):wt [p,q] <= 8796093022207:=zdH hP hQ
def Dy (a:Array (Nat × Value)):Sem Value:=Instr.buildSlice 110 2 a
theorem x4 (a:Array (Nat × Value)):Instr.buildSlice 110 2 a=Dy a:=rfl
theorem qG (p q:Pv) (w:World):(Dy #[(0,.agg (PC p)),(1,.agg (PC q))]).run Tryz.prog w = .ok (.slice (some ⟨w.heap.size,0,none⟩) 2 2) (w.alloc (.cells #[.slice p.vo p.vn p.vc,.slice p.co p.cn p.cc,.slice q.vo q.vn q.vc,.slice q.co q.cn q.cc] 26)):=by kernel_rfl
theorem pI (w:World) (p q:Pv) (hp:ak w p) (hq:ak w q):eT (w.alloc (.cells #[.slice p.vo p.vn p.vc,.slice p.co p.cn p.cc,.slice q.vo q.vn q.vc,.slice q.co q.cn q.cc] 26)) (some ⟨w.heap.size,0,none⟩) 2 [p,q]:=by
 refine zbl _ w.heap.size [p,q] _ rfl 26 2 rfl (heap_alloc_new w _) (fun x hx=>?_);rcases List.mem_cons.1 hx with rfl | hx
 ·exact hp.below (ze w _)
 ·obtain rfl:=List.mem_singleton.1 hx;exact hq.below (ze w _)
end
section
open Go.RowKit
variable {w w' : World} {g : Nat}
def aI (w:World) (g:Nat) (m:ct):Prop:=w.heap[g]? = some (.cells (FaC m) 38 (0,0))
theorem aI.lt {m:ct} (h:aI w g m):g < w.heap.size:=(Array.getElem?_eq_some_iff.1 h).1
theorem aI.below {m:ct} (h:aI w g m) (hb:Below w.heap.size w w'):aI w' g m:=(hb.block g h.lt).trans h
theorem aI.c0 {m:ct} (h:aI w g m):w.cell? ⟨g,0,none⟩=some (.slice m.addso m.addsn m.addsc):=by unfold aI at h;simp [World.cell?,h,FaC]
theorem aI.c1 {m:ct} (h:aI w g m):w.cell? ⟨g,1,none⟩=some (.slice m.veco m.vecn m.vecc):=by unfold aI at h;simp [World.cell?,h,FaC]
theorem aI.c2 {m:ct} (h:aI w g m):w.cell? ⟨g,2,none⟩=some (.slice m.cloudo m.cloudn m.cloudc):=by unfold aI at h;simp [World.cell?,h,FaC]
theorem aI.c3 {m:ct} (h:aI w g m):w.cell? ⟨g,3,none⟩=some (.slice m.recso m.recsn m.recsc):=by unfold aI at h;simp [World.cell?,h,FaC]
theorem qD (w:World) (m:ct):aI (w.alloc (.cells (FaC m) 38)) w.heap.size m:=by unfold aI;rw [heap_alloc_new]
def im (v:Value):Sem Value:=Instr.loadAt 38 v
theorem zK (v:Value):Instr.loadAt 38 v=im v:=rfl
def pG (p v:Value):Sem Unit:=Instr.storeAt 38 p v
theorem zJ (p v:Value):Instr.storeAt 38 p v=pG p v:=rfl
theorem mU:(Tryz.prog.info? 38).map (·.size)=some 4:=by kernel_rfl
theorem aI.range {m:ct} (h:aI w g m):w.rangeAt g 0 (FaC m).toList:=by
 intro j v hv;rw [Nat.zero_add];unfold aI at h;simp only [Array.getElem?_toList] at hv;simp [World.cell?,h,hv]
theorem zbc {m:ct} (A:aI w g m):(loadVar 38 ⟨g,0,none⟩).run Tryz.prog w = .ok (FaV m) w:=by
 have:=run_loadVar_mid (P:=Tryz.prog) w g 0 38 (FaC m).toList _ A.range Tryz.underlying38 rfl (by rw [mU];rfl);simpa using this
theorem z6 {m:ct} (A:aI w g m):(im (.pointer (some ⟨g,0,none⟩))).run Tryz.prog w = .ok (.agg (FaC m)) w:=by
 unfold im;simp only [Instr.loadAt,Instr.sureAddr,Sem.run_bind,Sem.run_pure,Result.andThen];exact zbc A
theorem jI {m m':ct} (A:aI w g m):(pG (.pointer (some ⟨g,0,none⟩)) (.agg (FaC m'))).run Tryz.prog w = .ok () (w.setRow g (FaC m')):=by
 unfold pG;have h:=run_storeCells_from (P:=Tryz.prog) g 38 (FaC m').toList 0 (FaC m) w A (by simp [FaC]) (zdV m')
 cases hq:Tryz.prog.info? 38 with
 | none=>have:=mU;simp [hq] at this
 | some x =>
  have hs:x.size=4:=by have:=mU;simpa [hq] using this
  simp only [Instr.storeAt,Instr.sureAddr,Sem.run_bind,Sem.run_pure,Result.andThen,storeVar,sizeOf,typeInfo,zj,zr];simp at h;simp [h,hq,hs]
theorem aI.setRow {m m':ct} (A:aI w g m):aI (w.setRow g (FaC m')) g m':=setRow_heap w g _ _ _ _ A
theorem aI.cs {w:World} {g:Nat} {f:Fc} (h:aI w g (mkF f)):w.cell? ⟨g,0,none⟩=some (.slice f.ao f.an f.ac)/\w.cell? ⟨g,3,none⟩=some (.slice f.ro f.rn f.rc):=⟨h.c0,h.c3⟩
theorem aI.past {w:World} {g:Nat} {f:Fc} (h:aI w g (mkF f)):PAt w ⟨g,1,none⟩ f.p:=⟨h.c1,h.c2⟩
theorem aI.ne {W:World} {g:Nat} {m:ct} (A:aI W g m) {a:Addr} {v:Value} (hc:W.cell? a=some v) (hv:∀ o n c,v ≠ .slice o n c):a.block≠g:=by
 rintro rfl;obtain ⟨b,o,k⟩:=a;unfold aI at A;have h:=World.cell?_spot hc;obtain rfl:k=none:=h;simp only [World.cell?,A] at hc;rcases o with _ | _ | _ | _ | o <;> simp [FaC] at hc
 all_goals exact absurd hc.symm (hv _ _ _)
theorem qC {W:World} {g:Nat} {a:Addr} (c:Array Value) (h:a.block≠g):(W.setRow g c).cell? a=W.cell? a:=by
 unfold World.cell?;rw [setRow_other _ _ _ _ h]
theorem zdt {W:World} {g:Nat} {m:ct} {ao:Option Addr} {n cap:Nat} {L:List K.En} (A:aI W g m) (h:K.aF W ao n cap L) (c:Array Value):K.aF (W.setRow g c) ao n cap L:=by
 refine ⟨h.1,h.2.1,fun ad e t ht=>?_,h.2.2.2⟩;have B:=h.2.2.1 ad e t ht;have hb:(ad.add (t * 4)).block≠g:=A.ne B.c0 (fun _ _ _ h=>by cases h);exact ⟨by rw [qC c hb];exact B.c0,by rw [qC c (by rw [zp];exact hb)];exact B.c1,by rw [qC c (by rw [zp];exact hb)];exact B.c2,by rw [qC c (by rw [zp];exact hb)];exact B.c3⟩
theorem bQ {W:World} {g:Nat} {m:ct} {p:Pv} (A:aI W g m) (h:ak W p) (c:Array Value):ak (W.setRow g c) p:=by
 refine ⟨⟨h.vec.1,h.vec.2.1,fun ad e t ht=>?_⟩,⟨h.cloud.len,h.cloud.nil,fun ad e t ht=>?_,h.cloud.big,h.cloud.cap⟩,h.big⟩
 ·have B:=h.vec.2.2 ad e t ht;rw [qC c (A.ne B (fun _ _ _ h=>by cases h))];exact B
 ·have B:=h.cloud.cell ad e t ht;have hb:=A.ne B.c0 (fun _ _ _ h=>by cases h);exact ⟨by rw [qC c hb];exact B.c0,by rw [qC c (by rw [zp];exact hb)];exact B.c1,by rw [qC c (by rw [zp];exact hb)];exact B.c2⟩
theorem zef {W:World} {g:Nat} {m:ct} {ao:Option Addr} {n cap:Nat} {L:List Rc} (A:aI W g m) (h:RcS W ao n cap L) (c:Array Value):RcS (W.setRow g c) ao n cap L:=by
 refine ⟨h.len,h.nil,fun ad ha t ht=>?_,fun r hr=>⟨bQ A (h.ok r hr).1 c,(h.ok r hr).2⟩,h.big⟩;have B:=h.at_ ad ha t ht;have hb:=A.ne B.c0 (fun _ _ _ h=>by cases h);exact ⟨by rw [qC c hb];exact B.c0,by rw [qC c (by rw [zp];exact hb)];exact B.c1,by rw [qC c (by rw [zp];exact hb)];exact B.c2⟩
theorem a8.offW {W:World} {g:Nat} {m:ct} {f:Fc} (h:a8 W f) (A:aI W g m) (c:Array Value):a8 (W.setRow g c) f:=⟨zdt A h.es c,bQ A h.p c,zef A h.rs c⟩
theorem ii {w:World} {g:Nat} {fn:Func} {p q:Tmp} {m:ct} {v:Value} (h:fn.results=#[.cell p 38,.tmp q]) {tmps:Array Value} (hp:tmps.getD p undef = .pointer (some ⟨g,0,none⟩)) (hq:tmps.getD q undef=v) (A:aI w g m) :
  (results fn tmps).run Tryz.prog w = .ok (.tuple #[FaV m,v]) w:=by
 have hl:=zbc A;simp only [results,h];rw [Array.getD_eq_getD_getElem?] at hp hq;simp [hp,hq,asAddr,hl]
def oj (a:Array (Nat × Value)):Sem Value:=Instr.build 38 a
theorem xm (a:Array (Nat × Value)):Instr.build 38 a=oj a:=rfl
theorem qV (w:World):(oj #[]).run Tryz.prog w = .ok (.agg (FaC (mkF fz0))) w:=by kernel_rfl
theorem xQ (a b:Option Addr) (n c m d:Nat) (p:Pv) (w:World):(oj #[(0,.slice a n c),(1,.agg (PC p)),(2,.slice b m d)]).run Tryz.prog w = .ok (.agg (FaC (mkF ⟨a,n,c,[],p,b,m,d,[]⟩))) w:=by kernel_rfl
def SwE (w w':World) (e:Ending) (D:Fc -> Int -> Prop):Prop:=∃ s er,e = .returned (.tuple #[FaV (mkF s),.int .i64 er])/\a8 w' s/\Below w.heap.size w w'/\D s er
def SwS (w w':World) (e:Ending) (D:Fc -> Prop):Prop:=∃ s,e = .returned (FaV (mkF s))/\a8 w' s/\Below w.heap.size w w'/\D s
end
section
open Go.RowKit

theorem cZ.sn {w:World} {g:Nat} {s:Sn} (h:cZ w g s):gA w ⟨g,0,none⟩ s:=⟨h.at.1,by rw [Addr.add_lit];exact h.at.2.1,by rw [Addr.add_lit];exact h.at.2.2⟩
theorem zcZ (s t:Sn) (w:World):Calls Tryz.prog 136 #[SV s,SV t] w fun e w'=>e = .returned (.int .i64 (nrC s ⟨t.rep,t.hi⟩))/\Below w.heap.size w w':=by
 have b1:=ze w (.cells (SC s) 69);have x1:=qF w s;have s1:=World.size_alloc w (.cells (SC s) 69);obtain ⟨w1,dH⟩:∃ w1,w.alloc (.cells (SC s) 69)=w1:=⟨_,rfl⟩;obtain ⟨g1,dx⟩:∃ g1,w.heap.size=g1:=⟨_,rfl⟩;rw [dH] at b1 x1 s1;rw [dx] at x1 s1;have b2:=ze w1 (.cells (SC t) 69);have x2:=qF w1 t;obtain ⟨w2,eZ⟩:∃ w2,w1.alloc (.cells (SC t) 69)=w2:=⟨_,rfl⟩;rw [eZ] at b2 x2;rw [s1] at x2;have HB:=hide (b1.trans (b2.mono b1.size));have HX:Hid (cZ w2 g1 s/\cZ w2 (g1+1) t):=⟨x1.below b2,x2⟩
 have aw:Hid (∀ W,Below w2.heap.size w2 W -> W.cell? ⟨g1,0,none⟩=some (.int .i64 s.rep)/\W.cell? ⟨g1,2,none⟩=some (.int .i64 s.hi)/\W.cell? ⟨g1+1,0,none⟩=some (.int .i64 t.rep)/\W.cell? ⟨g1+1,2,none⟩=some (.int .i64 t.hi)):=fun W hW=>by
  obtain ⟨c0,-,c2⟩:=(HX.out.1.below hW).at
  have hd:=(HX.out.2.below hW).at
  exact ⟨c0,c2,hd.1,hd.2.2⟩
 obtain ⟨p,Hp⟩:∃ p,Hid (au s.rep t.rep=p):=⟨_,rfl⟩;obtain ⟨q,Hq⟩:∃ q,Hid (au s.hi t.hi=q):=⟨_,rfl⟩
 have HR:Hid (nrC s ⟨t.rep,t.hi⟩=or2 p q):=by show _=_;unfold nrC;rw [Hp.out,Hq.out]
 clear b1 b2 x1 x2;go_enter Tryz.func136,Tryz.ntmps136;go_wp2_with fail;clear dH eZ s1 dx;refine wp_region_held_drew (S:=fun W=>W.cell? ⟨g1,0,none⟩=some (.int .i64 s.rep)/\W.cell? ⟨g1,2,none⟩=some (.int .i64 s.hi)/\W.cell? ⟨g1+1,0,none⟩=some (.int .i64 t.rep)/\W.cell? ⟨g1+1,2,none⟩=some (.int .i64 t.hi)) (by kernel_rfl) (aw.out _ (zd w2)) (fun hHeld=>?_);refine wU 0 ?_;refine wU 1 ?_;refine wU 2 ?_;refine wU 3 ?_;refine wU 5 ?_;refine wU 6 ?_;refine wU 7 ?_;refine wU 8 ?_;refine wR 4 fun K hK=>?_;go_simp;go_wp2_with fail;refine (qQ s.rep t.rep _).mono ?_;rintro e w' ⟨rfl,rfl⟩;rw [Hp.out];refine hK.out _ _ (aw.out _ (zd w2)) (fun hHeld=>?_);clear hK K;refine wR 9 fun K hK=>?_;go_simp
 go_wp2_with fail;refine (qQ s.hi t.hi _).mono ?_;rintro e w' ⟨rfl,rfl⟩;rw [Hq.out];refine hK.out _ _ (aw.out _ (zd w2)) (fun hHeld=>?_);clear hK K;have aN:=hide ((zd w2).trans (ze w2.drew (.cells #[.int .i64 p,.int .i64 q] 3)));have HO:=hide (zaN p q w2.drew w2.heap.size rfl);refine wR 10 fun K hK=>?_;go_simp;refine hK.out _ _ (aw.out _ aN.out) (fun hHeld=>?_);clear hK K;refine wR 11 fun K hK=>?_;go_simp;go_wp2_with fail;refine HO.out.mono ?_;rintro e w' ⟨rfl,rfl⟩;refine hK.out _ _ (aw.out _ aN.out) (fun hHeld=>?_);clear hK K;refine wU 12 ?_;refine wD ?_ _;clear hHeld;go_wp2_with fail;go_ret;exact ⟨zx HR.out.symm,HB.out.trans (aN.out.mono HB.out.size)⟩
end
end Go.Proofs.YtcilfelgpmfehaaGreat
