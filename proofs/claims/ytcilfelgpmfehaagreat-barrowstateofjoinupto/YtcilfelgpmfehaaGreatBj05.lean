/- PCa PNm QRn -/
import Derived.Test.YtcilfelgpmfehaaGreatBj03
import Derived.Test.YtcilfelgpmfehaaGreatBj04
set_option maxRecDepth 100000
set_option maxHeartbeats 4000000
namespace Go.Proofs.YtcilfelgpmfehaaGreat
section
open Go.RowKit
attribute [local go_sem ↓] zl zk kP kN ki j8
attribute [local go_sem] xO q7 zw zf zZ zD zW qr zh zN V.vg qS bp qi xW qy
theorem ze9 (vo:Option Addr) (vn vc:Nat) (co:Option Addr) (cn cc:Nat):((PC pv0).setIfInBounds 0 (.slice vo vn vc)).setIfInBounds 1 (.slice co cn cc)=#[.slice vo vn vc,.slice co cn cc]:=rfl
attribute [local go_sem] ze9
structure gh (w W:World) (F:Nat -> Sl) (f:Nat -> Int) (ao:Option Addr) (cap:Nat) (acc:List Sn):Prop where
 s:cw W w.heap.size F
 p:aE W (w.heap.size+1) pv0
 v:V.Arr W (w.heap.size+1+1) 141 f
 o:dR w.heap.size (w.heap.size+3) w W ao cap acc
theorem gh.on {w W W':World} {F:Nat -> Sl} {f:Nat -> Int} {ao:Option Addr} {cap:Nat} {acc:List Sn} (I:gh w W F f ao cap acc) (hb:Below W.heap.size W W'):gh w W' F f ao cap acc:=
 ⟨I.s.below hb,I.p.below hb,I.v.below hb,I.o.later hb⟩
theorem gh.push {w W W':World} {F:Nat -> Sl} {f:Nat -> Int} {ao ao':Option Addr} {cap cap':Nat} {acc acc':List Sn} (I:gh w W F f ao cap acc) (O:dR w.heap.size (w.heap.size+3) w W' ao' cap' acc')
  {g:Nat} (hk:∀ k,k < W.heap.size -> (Value.slice ao acc.length cap).ownBlock≠some k -> W'.heap[k]? = W.heap[k]? /\ g≠k):gh w W' F f ao' cap' acc':=by
 have hB:=I.o.hB;have key:∀ k,k < w.heap.size+3 -> W'.heap[k]? = W.heap[k]?:=fun k aq=>(hk k (by omega) (fun e=>by have:=(I.o.own.lt k e).1;omega)).1;exact ⟨(key _ (by omega)).trans I.s,(key _ (by omega)).trans I.p,(key _ (by omega)).trans I.v,O⟩
theorem gh.vset {w W:World} {F:Nat -> Sl} {f:Nat -> Int} {ao:Option Addr} {cap:Nat} {acc:List Sn} (I:gh w W F f ao cap acc) (k:Nat) (z:Int):gh w (W.setCell ⟨w.heap.size+1+1,k,none⟩ (.int .i64 z)) F (V.ly f k z) ao cap acc:=by
 have other:∀ q,q≠w.heap.size+1+1 -> (W.setCell ⟨w.heap.size+1+1,k,none⟩ (.int .i64 z)).heap[q]? = W.heap[q]?:=fun q hq=>by
  simp [World.setCell,Array.getElem?_modify,show ¬ w.heap.size+1+1=q by omega]
 refine ⟨(other _ (by omega)).trans I.s,(other _ (by omega)).trans I.p,I.v.set k z,⟨⟨I.o.own.1,?_⟩,V.xe I.o.below (by simp;omega),by have:=I.o.hB;simp [World.setCell];omega,I.o.hB0⟩⟩;rcases I.o.own.2 with h | ⟨g,cap2,cur,hv,dV,dB,r⟩
 ·exact Or.inl h
 ·exact Or.inr ⟨g,cap2,cur,hv,dV,(other g (by omega)).trans dB,r⟩
theorem gh.congr {w W:World} {F:Nat -> Sl} {f f':Nat -> Int} {ao:Option Addr} {cap:Nat} {acc:List Sn} (I:gh w W F f ao cap acc) (h:∀ r,r < 16 -> f r=f' r):gh w W F f' ao cap acc:=⟨I.s,I.p,I.v.congr h,I.o⟩
def fZ (N:Nat -> List Rn) (k:Nat):Nat -> Int:=fun r=>if r < k then aG (N r) else 0
theorem zd1 {L:List Rn} {k j:Nat} {x:Rn} (h:L.take (j+1)=L.take j++[x]):tag k (L.take (j+1))=tag k (L.take j)++[⟨(k:Int),x.lo,x.hi⟩]:=by rw [h];simp [tag]

theorem qI (F:Nat -> Sl) (w:World) (hF:∀ r,r < 16 -> aU w (F r).ao (F r).n (F r).cap (F r).L) :
  Calls Tryz.prog 65 #[SAv F] w fun e w'=>cW w w' e (ae (fun r=>(F r).L)):=by
 have HF:=hide hF;clear hF;go_enter Tryz.func65,Tryz.ntmps65;go_wp2_with fail;go_loopw [4,10] (fun c i wr=>∃ (k:Nat) (N:Nat -> List Rn) (ao:Option Addr) (cap:Nat) (acc:List Sn),k <= 16/\c = .slice ao acc.length cap/\i = .int .i64 k/\Hid (gh w wr F (fZ N k) ao cap acc/\(∀ r,r < k -> aZ (F r).L (N r))/\acc=aO N k)) (fun _ i _=>16 - (intOf i).toNat)
 case atStart =>
  have b1:=ze w (.cells (SA F) 113);have b2:=ze (w.alloc (.cells (SA F) 113)) (.cells (PC pv0) 26);have b3:=ze ((w.alloc (.cells (SA F) 113)).alloc (.cells (PC pv0) 26)) (.cells (V.VC fun _=>0) 141);have p1:=zq (w.alloc (.cells (SA F) 113)) pv0;have v1:=V.bt ((w.alloc (.cells (SA F) 113)).alloc (.cells (PC pv0) 26)) 141 (fun _=>0);simp only [World.size_alloc] at p1 v1;refine ⟨0,fun _=>[],none,0,[],Nat.zero_le _,rfl,rfl,⟨((jc w F).below b2).below b3,p1.below b3,v1.congr (fun r _=>by simp [fZ]),dR.nil (b1.trans ((b2.trans (b3.mono b2.size)).mono b1.size)) (by simp) (by omega)⟩,fun r h=>by omega,rfl⟩
 case round =>
  obtain ⟨k,N,ao,cap,acc,hk,rfl,rfl,HI⟩:=hrel
  rename World=>w3
  by_cases aq:k < 16
  ·have c1:=HI.out.1.s.cell k aq;have AE:=hide ((HF.out k aq).below HI.out.1.o.below);obtain ⟨sa,sn,sc,hf⟩:∃ sa sn sc,(F k).ao=sa/\(F k).n=sn/\(F k).cap=sc:=⟨_,_,_,rfl,rfl,rfl⟩;rw [hf.1,hf.2.1,hf.2.2] at c1 AE;clear hf;go_wp2_with fail;refine (zev sa sn sc (F k).L _ AE.out).mono ?_;rintro e w4 ⟨z,a1,n1,c1',L,rfl,S4,hL,b4,f4⟩;obtain ⟨X,hX,hz,JW⟩:=hL.norm;have HX:=hide hX;have HZ:=hide hz;have EH:=hide JW;have nG:=hide (HI.out.1.on b4);have Lb:=hide b4.size;have HA:=hide HI.out.2;have iK:=hide S4;have dV:=S4.big;have uM:Hid (L.length=n1):=S4.len;have d1:=nG.out.v.cell k aq;have d2:=nG.out.v.frozen k;have uI:Hid (∀ ad,a1=some ad -> w3.heap.size <= ad.block):=f4;have MT:=hide HI.out.1.o.hB;have Lz:Hid (∀ q,(Value.slice ao acc.length cap).ownBlock=some q -> q < w3.heap.size):=fun q h=>(HI.out.1.o.own.lt q h).2
   have Mk:=hide hL.1;clear hX hz JW hL S4 b4 f4 HI AE c1;go_wp2_with fail;have GD:=hide ((nG.out.vset k z))
   have uL:Hid (aU (w4.setCell ⟨w.heap.size+1+1,k,none⟩ (.int .i64 z)) a1 n1 c1' L):=je iK.out (fun ad h=>by
    have h1:=uI.out ad h;have h2:=MT.out
    simp [World.setCell,Array.getElem?_modify,show ¬ w.heap.size+1+1=ad.block by omega])
   have Hf:Hid (w3.heap.size <= (w4.setCell ⟨w.heap.size+1+1,k,none⟩ (.int .i64 z)).heap.size):=by
    have:=nG.out.o.hB
    show _ <= _
    simp only [World.setCell,Array.size_modify];exact Lb.out
   generalize (w4.setCell ⟨w.heap.size+1+1,k,none⟩ (.int .i64 z))=w5 at GD uL Hf ⊢;go_loopw [4,25] (fun c i wr=>∃ (j:Nat) (ao':Option Addr) (cap':Nat) (acc':List Sn),j <= n1/\c = .slice ao' acc'.length cap'/\i = .int .i64 j/\Hid (gh w wr F (V.ly (fZ N k) k z) ao' cap' acc'/\acc'=acc++tag k (L.take j)/\aU wr a1 n1 c1' L/\(∀ ad,a1=some ad -> (Value.slice ao' acc'.length cap').ownBlock≠some ad.block))) (fun _ i _=>n1 - (intOf i).toNat)
   case atStart =>
    exact ⟨0,ao,cap,acc,Nat.zero_le _,rfl,rfl,GD.out,by simp [tag],uL.out,fun ad h e=>by have:=Lz.out _ e;have:=uI.out ad h;omega⟩
   case round =>
    obtain ⟨j,ao',cap',acc',hj,rfl,rfl,HJ⟩:=hrel
    rename World=>w6
    clear nG GD uL iK d1 d2;by_cases iy:j < n1
    ·obtain ⟨ad,rfl,A0⟩:=HJ.out.2.2.1.at j iy;have dz:=xS A0;obtain ⟨x,Hx⟩:∃ x,Hid (L.getD j rn0=x):=⟨_,rfl⟩;rw [Hx.out] at dz
     have I6:j < L.length:=by rw [uM.out];exact iy
     have HT:Hid (L.take (j+1)=L.take j++[x]):=by show _=_;rw [List.take_succ_eq_append_getElem I6,<- Hx.out];simp [List.getD,I6]
     obtain ⟨w7,cr,XB,b7,z7⟩:=gE w6 x w6.heap.size rfl;have x0:=XB.at.c0;have x1:w7.cell? ⟨w6.heap.size,1,none⟩=some (.int .i64 x.hi):=XB.at.c1;have JG:=hide (HJ.out.1.on b7);have J7:=hide (HJ.out.2.2.1.below b7);have JI:=hide HJ.out.2.2.2;have HE:=hide HJ.out.2.1
     have up:Hid (acc'.length < 5864062014805):=by
      have h1:=jP (N:=N) k (fun r hr=>(HA.out.1 r hr).1);have h2:=x7 (Int.le_refl _) Mk.out;have h3:=HA.out.2;have h4:=HJ.out.2.1
      show _ < _
      rw [h4,List.length_append,kz,h3,List.length_take];omega
     obtain ⟨m,Hm⟩:∃ m,Hid (acc'.length=m):=⟨_,rfl⟩;rw [Hm.out];have JZ:=hide (World.block_lt_of_cell? _ _ (J7.out.cell ad rfl 0 (by omega)).c0);clear XB b7 z7 A0 HJ;go_wp2_with (at_builtin;refine JG.out.o.append ⟨(k:Int),x.lo,x.hi⟩ _ rfl up.out rfl (.tmp 29) (.tmp 36) rfl m Hm.out rfl rfl ?_;intro g8 c8 w8 O8 h8);go_roundw
     case rel =>
      refine ⟨j+1,some ⟨g8,0,none⟩,c8,acc'++[⟨(k:Int),x.lo,x.hi⟩],by omega,by rw [List.length_append,Hm.out];rfl,by go_num,JG.out.push O8 h8,by rw [zd1 HT.out,<- List.append_assoc,<- HE.out],?_,?_⟩
      ·exact je J7.out (fun ad' h=>(h8 _ (by obtain rfl:=Option.some.inj h;have:=JZ.out;rw [zp] at this;exact this) (JI.out ad' h)).1)
      ·intro ad' h e;have e':g8=ad'.block:=Option.some.inj e;exact (h8 _ (by obtain rfl:=Option.some.inj h;have:=JZ.out;rw [zp] at this;exact this) (JI.out ad' h)).2 e'
     case measure=>simp [intOf];omega
    ·obtain rfl:j=n1:=by omega
     have Gy:Hid (∀ r,r < k+1 -> aZ (F r).L ((fun r=>if r=k then X else N r) r)):=fun r hr=>by
      dsimp only;by_cases e:r=k
      ·subst e;rw [if_pos rfl];exact HX.out
      ·rw [if_neg e];exact HA.out.1 r (by omega)
     have Ey:Hid (acc'=aO (fun r=>if r=k then X else N r) (k+1)):=by
      show _=_
      have h:aO (fun r=>if r=k then X else N r) k=aO N k:=jy k (fun r hr=>by simp;omega);rw [HJ.out.2.1,HA.out.2,aO,h,<- uM.out,List.take_length,EH.out];simp
     have EP:Hid (∀ r,r < 16 -> V.ly (fZ N k) k z r=fZ (fun r=>if r=k then X else N r) (k+1) r):=fun r _=>by
      unfold V.ly fZ;by_cases e:r=k
      ·subst e;simp [HZ.out]
      ·by_cases h:r < k
       ·simp [e,h,show r < k+1 by omega]
       ·simp [e,h,show ¬ r < k+1 by omega]
     have MO:=hide HJ.out.1;clear HJ;go_wp2_with fail;go_roundw
     case rel=>exact ⟨k+1,fun r=>if r=k then X else N r,ao',cap',acc',by omega,rfl,by go_num,MO.out.congr EP.out,Gy.out,Ey.out⟩
     case measure=>simp [intOf];omega
  ·obtain rfl:k=16:=by omega
   have HV:Hid (V.Src w3 (some ⟨w.heap.size+1+1,0,none⟩) 16 16 ((List.range 16).map (fZ N 16))):=⟨by simp,fun h=>(by cases h),fun ad h t ht=>by
    obtain rfl:=Option.some.inj h;rw [Addr.add_lit,Nat.zero_add,HI.out.1.v.cell t ht]
    simp [List.getD,ht]⟩
   have HE:Hid (V.aH (V.at' ((List.range 16).map (fZ N 16)))=V.aH (fun r=>aG (N r))):=xF (fun r hr=>by
    have hb:=ju (HI.out.2.1 r hr).1;unfold V.at' V.dK;rw [if_pos hr];simp [List.getD,hr,fZ]
    omega)
   obtain ⟨m,Hm⟩:∃ m,Hid (acc.length=m):=⟨_,rfl⟩;rw [Hm.out];go_wp2_with fail;refine (V.vr _ _ _ _ _ HV.out).mono ?_;rintro e w5 ⟨vo,vn,vc,rfl,S5,b5,f5⟩;have I5:=HI.out.1.on b5;have oG:=jP (N:=N) 16 (fun r hr=>(HI.out.2.1 r hr).1);rw [<- HI.out.2.2] at oG;obtain ⟨S6,f6⟩:=I5.o.src (by omega);rw [Hm.out] at S6;rw [HE.out] at S5;obtain ⟨p',sU⟩:∃ p':Pv,p'=⟨vo,vn,vc,ao,m,cap,⟨V.aH (fun r=>aG (N r)),acc⟩⟩:=⟨_,rfl⟩
   have s1:(stP (.pointer (some ⟨w.heap.size+1,0,none⟩)) (.agg #[.slice vo vn vc,.slice ao m cap])).run Tryz.prog w5 = .ok () (w5.setRow (w.heap.size+1) (PC p')):=by
    have:=qJ (p':=p') I5.p;rw [sU] at this ⊢;exact this
   have HP:Hid (aE (w5.setRow (w.heap.size+1) (PC p')) (w.heap.size+1) p'):=setRow_heap _ _ _ _ _ _ I5.p;have h3:=HI.out.1.o.hB
   have HQ:Hid (ak (w5.setRow (w.heap.size+1) (PC p')) p'/\de w.heap.size p'/\Below w.heap.size w (w5.setRow (w.heap.size+1) (PC p'))/\ae (fun r=>(F r).L) p'.P):=by
    refine ⟨⟨?_,?_,?_⟩,⟨?_,?_⟩,zg I5.o.below (by omega),N,HI.out.2.1,?_⟩
    ·rw [sU];exact S5.off (fun ad h=>setRow_other _ _ _ _ (fun e=>by have:=f5 ad h;omega))
    ·rw [sU];exact S6.off (fun ad h=>setRow_other _ _ _ _ (fun e=>by have:=f6 ad h;omega))
    ·rw [sU];have:=S5.1;rw [V.zO] at this;have oN:=V.kL (fun r=>aG (N r));show vn <= _;omega
    ·rw [sU];exact fun ad h=>by have:=f5 ad h;omega
    ·rw [sU];exact fun ad h=>by have:=f6 ad h;omega
    ·rw [sU];show (⟨_,acc⟩:Pst)=_;rw [HI.out.2.2];rfl
   clear S5 S6 f5 f6 oG h3 I5 b5 sU;go_wp2_with fail;exact bodyPost_ret (v:=PV p') (eQ Tryz.results65 rfl HP.out) rfl ⟨p',rfl,HQ.out⟩
end
section
open Go.RowKit
attribute [local go_sem ↓] zl zk kP kN
attribute [local go_sem] xO q7 zw zf zW zh
theorem qs (a:Pv):Array.foldl (fun cs x=>cs.setIfInBounds x.snd x.fst) #[(PC pv0)[0]!,(PC pv0)[1]!] (PC a).zipIdx 0 2=PC a:=rfl
attribute [local go_sem] qs
theorem vm (W:World) (a:Pv) (hS:ak W a):eT (W.alloc (.cells (PC a) 26)) (some ⟨W.heap.size,0,none⟩) 1 [a]:=
 zbl _ _ [a] (PC a) (by simp [pcs]) _ 1 rfl (heap_alloc_new W _) (fun p h=>by obtain rfl:=List.mem_singleton.1 h;exact hS.below (ze _ _))
theorem wC {W:World} {a:Pv} (hS:ak W a):wt [a] <= 8796093022207:=by have h1:=hS.cloud.big;have h2:=hS.cloud.len;simp only [wt];omega
theorem qz (ao:Option Addr) (q cap:Nat) (X:List Pv) (w:World) (hS:eT w ao q X) (hN:wt X <= 8796093022207) (hq:q <= 8796093022207) :
  Calls Tryz.prog 35 #[.slice ao q cap] w fun e w'=>cW w w' e (ae (aA X)):=by
 have HS:=hide hS;have HN:=hide hN;clear hS hN;have b0:=ze w (.cells (PC pv0) 26);have gN:=hide b0;have sV:=hide (zq w pv0);clear b0;go_enter Tryz.func35,Tryz.ntmps35;go_wp2_with fail;refine (xg ao q cap X _ (HS.out.below gN.out) HN.out hq).mono ?_;rintro e w1 ⟨F,rfl,⟨S1,hF,_,_⟩,b1⟩;have HF:=hide hF;have aW:=hide b1;have ei:=hide S1;clear b1 S1 hF;go_wp2_with fail;refine (qI F _ ei.out).mono ?_;rintro e w2 ⟨p,rfl,S2,n2,b2,c2⟩;obtain ⟨s1,e1,e2,e3,e4⟩:=xq (w:=w) ((sV.out.below aW.out).below b2) S2 (n2.mono (by have:=aW.out.size;simp at this;omega)) (gN.out.trans ((aW.out.trans (b2.mono aW.out.size)).mono gN.out.size)) (Nat.le_refl _);have dO:=hide e1;have eV:Hid (cW w (w2.setRow w.heap.size (PC p)) (.returned (PV p)) (ae (aA X))):=⟨p,rfl,e2,e3,e4,c2.congr HF.out⟩
 clear S2 n2 b2 c2 e1 e2 e3 e4;go_wp2_with fail;exact bodyPost_ret (v:=PV p) (eQ Tryz.results35 rfl dO.out) rfl eV.out
theorem kO (a:Pv) (w:World) (hS:ak w a) :
  Calls Tryz.prog 76 #[PV a] w fun e w'=>cW w w' e (ae (aa a.P)):=by
 have b0:=ze w (.cells (PC a) 26);have b1:=ze (w.alloc (.cells (PC a) 26)) (.cells (PC pv0) 26);have tS:=zq (w.alloc (.cells (PC a) 26)) pv0
 have l1:=zi ((zq w a).below b1).at
 rw [World.size_alloc] at tS;have aW:=hide (b0.trans (b1.mono b0.size));have HS:=hide (hS.below aW.out);have eo:=hide tS;have HW:=hide (wC hS);clear hS b0 b1 tS;go_enter Tryz.func76,Tryz.ntmps76;go_wp2_with fail;have R:=vm _ a HS.out;have bl:=ze ((w.alloc (.cells (PC a) 26)).alloc (.cells (PC pv0) 26)) (.cells (PC a) 26);simp only [World.size_alloc] at R;refine (xg _ 1 1 [a] _ R HW.out (by omega)).mono ?_;rintro e w1 ⟨F,rfl,⟨S1,hF,_,_⟩,b2⟩;have HF:=hide hF;have cd:=hide (bl.trans (b2.mono bl.size));have ei:=hide S1;clear b2 S1 hF R bl;go_wp2_with fail;refine (qI F _ ei.out).mono ?_;rintro e w2 ⟨p,rfl,S2,n2,b2,c2⟩;obtain ⟨s1,e1,e2,e3,e4⟩:=xq (w:=w) ((eo.out.below cd.out).below b2) S2 (n2.mono (by have:=cd.out.size;simp at this;omega)) (aW.out.trans ((cd.out.trans (b2.mono cd.out.size)).mono aW.out.size)) (by omega)
 have dO:=hide e1;have eV:Hid (cW w (w2.setRow (w.heap.size+1) (PC p)) (.returned (PV p)) (ae (aa a.P))):=⟨p,rfl,e2,e3,e4,c2.congr (fun r hr=>by rw [HF.out r hr,xi])⟩;clear S2 n2 b2 c2 e1 e2 e3 e4;go_wp2_with fail;exact bodyPost_ret (v:=PV p) (eQ Tryz.results76 rfl dO.out) rfl eV.out
def ey (N:Nat -> List Rn):Nat -> Int
 | 0=>0
 | k+1=>ey N k+sz (N k)
def nC (G:Nat -> List Rn) (z:Int):Prop:=∃ N,(∀ r,r < 16 -> aZ (G r) (N r))/\z=ey N 16
theorem zaA {N:Nat -> List Rn}:∀ k,(∀ r,r < k -> form 1 (N r)) -> 0 <= ey N k/\ey N k <= k * 1000000000
 | 0,_=>by simp [ey]
 | k+1,h=>by
  have h1:=zaA k (fun r hr=>h r (by omega));have h2:=zbQ (h k (by omega))
  have h3:sz (N k) <= 1000000000:=by
   rcases h2.2.1 with e | e
   ·rw [e];simp [sz]
   ·omega
  rw [ey]
  push_cast
  omega
theorem wO {N N':Nat -> List Rn}:∀ k,(∀ r,r < k -> N r=N' r) -> ey N k=ey N' k
 | 0,_=>rfl
 | k+1,h=>by rw [ey,ey,wO k (fun r hr=>h r (by omega)),h k (by omega)]
theorem zd9 (F:Nat -> Sl) (k:Nat) (hk:k < 16) (w:World):(Instr.index 113 (SAv F) (.int .i64 (k:Int))).run Tryz.prog w = .ok (.slice (F k).ao (F k).n (F k).cap) w:=by
 have h1:0 <= (k:Int)/\(k:Int) < 16:=by omega
 have h2:=zgn F k hk
 have eL:(isAgg 111).run Tryz.prog w = .ok false w:=by
  unfold isAgg;rw [Sem.run_bind,run_underlying Tryz.underlying111 w];rfl
 simp [Instr.index,run_underlying Tryz.underlying113,SAv,asIntOf,Result.andThen,part,eL,h2,slv];omega
def ixA (x i:Value):Sem Value:=Instr.index 113 x i
theorem zfz (x i:Value):Instr.index 113 x i=ixA x i:=rfl
attribute [local go_sem ↓] zfz
theorem bU (a:Pv) (w:World) (hS:ak w a) :
  Calls Tryz.prog 141 #[PV a] w fun e w'=>∃ z,e = .returned (.int .i64 z)/\nC (aa a.P) z/\Below w.heap.size w w':=by
 have b0:=ze w (.cells (PC a) 26)
 have l1:=zi (zq w a).at
 have aW:=hide b0;have HS:=hide (hS.below aW.out);have HW:=hide (wC hS);clear hS b0;go_enter Tryz.func141,Tryz.ntmps141;go_wp2_with fail;have R:=vm _ a HS.out;have bl:=ze (w.alloc (.cells (PC a) 26)) (.cells (PC a) 26);simp only [World.size_alloc] at R;refine (xg _ 1 1 [a] _ R HW.out (by omega)).mono ?_;rintro e w1 ⟨F,rfl,⟨S1,hF,_,_⟩,b2⟩;have HF:=hide hF;have cd:=hide (aW.out.trans ((bl.trans (b2.mono bl.size)).mono aW.out.size));have ei:=hide S1;clear b2 S1 hF R bl;go_wp2_with fail;go_loopw [3,9] (fun s i wr=>∃ (k:Nat) (N:Nat -> List Rn),k <= 16/\s = .int .i64 (ey N k)/\i = .int .i64 k/\Hid (∀ r,r < k -> aZ (F r).L (N r))/\Hid (Below w1.heap.size w1 wr)) (fun _ i _=>16 - (intOf i).toNat)
 case atStart=>exact ⟨0,fun _=>[],Nat.zero_le _,rfl,rfl,fun r h=>by omega,Below.refl _ _⟩
 case round =>
  obtain ⟨k,N,hk,rfl,rfl,HN,HB⟩:=hrel
  rename World=>w3
  have MA:=zaA (N:=N) k (fun r hr=>(HN.out r hr).1);by_cases aq:k < 16
  ·have c1:(ixA (SAv F) (.int .i64 (k:Int))).run Tryz.prog w3=_:=zd9 F k aq w3;have AE:=hide ((ei.out k aq).below HB.out);obtain ⟨sa,sn,sc,hf⟩:∃ sa sn sc,(F k).ao=sa/\(F k).n=sn/\(F k).cap=sc:=⟨_,_,_,rfl,rfl,rfl⟩;rw [hf.1,hf.2.1,hf.2.2] at c1 AE;clear hf;go_wp2_with fail;refine (zd5 sa sn sc (F k).L _ AE.out).mono ?_;rintro e w4 ⟨z,rfl,hz,b4⟩;obtain ⟨R,hR,Ge⟩:=hz;have h2:=zbQ hR.1
   have h3:0 <= z/\z <= 1000000000:=by
    rw [Ge];refine ⟨h2.1,?_⟩;rcases h2.2.1 with e | e
    ·rw [e];simp [sz]
    ·omega
   have Gy:Hid (∀ r,r < k+1 -> aZ (F r).L ((fun r=>if r=k then R else N r) r)):=fun r hr=>by
    dsimp only;by_cases e:r=k
    ·subst e;rw [if_pos rfl];exact hR
    ·rw [if_neg e];exact HN.out r (by omega)
   have AI:Hid (ey N k+z=ey (fun r=>if r=k then R else N r) (k+1)):=by
    have h:ey (fun r=>if r=k then R else N r) k=ey N k:=wO k (fun r hr=>by simp;omega)
    show _=_
    rw [ey,h,Ge];simp
   have aR:=wTr HB b4;obtain ⟨y,Hy⟩:∃ y,Hid (ey N k=y):=⟨_,rfl⟩;rw [Hy.out] at MA AI ⊢;clear hR Ge h2 b4;go_wp2_with fail;go_roundw
   case rel=>exact ⟨k+1,fun r=>if r=k then R else N r,by omega,by rw [<- AI.out],by go_num,Gy.out,aR.out⟩
   case measure=>simp [intOf];omega
  ·obtain rfl:k=16:=by omega
   have HR:Hid (nC (aa a.P) (ey N 16)/\Below w.heap.size w w3):=⟨⟨N,fun r hr=>by rw [<- xi,<- HF.out r hr];exact HN.out r hr,rfl⟩,cd.out.trans (HB.out.mono cd.out.size)⟩;go_wp2_with fail;go_ret;exact ⟨_,rfl,HR.out⟩
theorem nC.zero {G:Nat -> List Rn} {z:Int} (h:nC G z):z=0↔∀ r,r < 16 -> ∀ n,¬ mem (G r) n:=by
 obtain ⟨N,hN,rfl⟩:=h
 have key:∀ k,k <= 16 -> (ey N k=0↔∀ r,r < k -> N r=[]):=by
  intro k
  induction k with
  | zero=>intro _;exact ⟨fun _ r h=>by omega,fun _=>rfl⟩
  | succ k ih =>
   intro hk;have h1:=zaA (N:=N) k (fun r hr=>(hN r (by omega)).1);have h2:=zbQ (hN k (by omega)).1;rw [ey];constructor
   ·intro h r hr;by_cases e:r=k
    ·subst e;exact h2.2.2 (by omega)
    ·exact (ih (by omega)).1 (by omega) r (by omega)
   ·intro h;rw [(ih (by omega)).2 (fun r hr=>h r (by omega)),h k (by omega)];rfl
 rw [key 16 (by omega)];constructor
 ·intro h r hr n hm;have:=((hN r hr).2 n).2 hm;rw [h r hr] at this;exact qN n this
 ·intro h r hr;exact zcd (Int.le_refl _) (hN r hr).1 (fun n hm=>h r hr n (((hN r hr).2 n).1 hm))
theorem jg (a:Pv) (w:World) (hS:ak w a) :
  Calls Tryz.prog 100 #[PV a] w fun e w'=>∃ b,e = .returned (.bool b)/\(b=true↔∀ r,r < 16 -> ∀ n,¬ mem (aa a.P r) n)/\Below w.heap.size w w':=by
 have b0:=ze w (.cells (PC a) 26)
 have l1:=zi (zq w a).at
 have aW:=hide b0;have HS:=hide (hS.below aW.out);clear hS b0;go_enter Tryz.func100,Tryz.ntmps100;go_wp2_with fail;refine (bU a _ HS.out).mono ?_;rintro e w2 ⟨z,rfl,hz,b2⟩
 have HZ:Hid ((z == 0)=true↔∀ r,r < 16 -> ∀ n,¬ mem (aa a.P r) n):=by rw [<- hz.zero];simp [Hid]
 have cd:=wTr aW b2;clear hz b2;go_wp2_with fail;go_ret;exact ⟨_,rfl,HZ.out,cd.out⟩
end
section
open Go.RowKit
attribute [local go_sem ↓] zl zk
attribute [local go_sem] xv q8 zw zf zW zh qs
end
end Go.Proofs.YtcilfelgpmfehaaGreat
