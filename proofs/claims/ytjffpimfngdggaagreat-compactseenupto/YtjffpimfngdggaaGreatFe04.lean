/- QMe -/
import Derived.Test.YtjffpimfngdggaaGreatTk
import Derived.Test.YtjffpimfngdggaaGreatFe03
import Derived.Deep.RegionHeldLaw
import Derived.Deep.CutRange
import Derived.Deep.CutBlock
set_option maxRecDepth 100000
set_option maxHeartbeats 8000000
namespace Go.Proofs.YtjffpimfngdggaaGreat
open Go.RowKit
attribute [local go_sem ↓] xT jn kN kz
attribute [local go_sem] xF qT xN qB ko qY
def gX (w w':World) (e:Ending) (G:Nat -> List Rn):Prop:=∃ (T:Nat -> Si) (N:Nat -> List Rn),e = .returned (JAv T)/\(∀ r,r < 16 -> V.Src w' (T r).ao (T r).n (T r).cap (tn (N r))/\(∀ ad,(T r).ao=some ad -> w.heap.size <= ad.block)/\aT (G r) (N r))/\Below w.heap.size w w'
def vp (p:Pst) (j r:Nat):List Rn:=if r < j then [⟨1,p.vec.getD r 0⟩] else []
theorem zhK (p:Pst) (A:Nat -> List Rn) (j r:Nat):(if r=j then (A r++vp p j r)++[⟨1,p.vec.getD j 0⟩] else A r++vp p j r)=A r++vp p (j+1) r:=by
 unfold vp;by_cases h:r=j
 ·subst h;simp
 ·by_cases h':r < j
  ·simp [h,h',show r < j+1 by omega]
  ·simp [h,h',show ¬ r < j+1 by omega]
theorem zcm (p:Pst) (j r:Nat) (h1:j <= p.vec.length) (h2:j=p.vec.length∨j=16) (hr:r < 16):vp p j r=if r < p.vec.length then [⟨1,p.vec.getD r 0⟩] else []:=by
 unfold vp;by_cases h:r < j
 ·rw [if_pos h,if_pos (by omega)]
 ·rw [if_neg h,if_neg (by omega)]
theorem wQ (X:List Pv) (r:Nat):(ct X r).length <= wt X:=by
 induction X with
 | nil=>simp [ct]
 | cons p X ih =>
  have h2:=xJ p.P.cloud r;simp only [ct,fX,wt,List.length_append]
  split <;> simp <;> omega
theorem zgh (ao:Option Addr) (q cap:Nat) (X:List Pv) (w:World) (hS:fq w ao q X) (hN:wt X <= 8796093022207) (hq:q <= 8796093022207) :
  Calls Tryz.prog 143 #[.slice ao q cap] w fun e w'=>gX w w' e (aw X):=by
 have HS:=hide hS;have HN:=hide hN;clear hS hN;go_enter Tryz.func143,Tryz.ntmps143;go_wp2_with fail;go_loopw [5] (fun i wr=>∃ (k:Nat) (F:Nat -> Si),k <= q/\i = .int .i64 k/\Hid (MeI w wr F (ct (X.take k)) (ct (X.take k)))) (fun i _=>q - (intOf i).toNat)
 case atStart =>
  have i1:=xA w 141 (fun _=>si0);have i2:=xA (w.alloc (.cells (JA fun _=>si0) 141)) 139 (fun _=>si0);have i3:=xA ((w.alloc (.cells (JA fun _=>si0) 141)).alloc (.cells (JA fun _=>si0) 139)) 139 (fun _=>si0);simp only [World.size_alloc] at i2 i3;exact ⟨0,fun _=>si0,Nat.zero_le _,rfl,(i1.below (ze _ _)).below (ze _ _),i2.below (ze _ _),i3,dE.nil _ _,fun r _=>rfl,fun r _=>rfl,(((Below.refl _ _).alloc (Nat.le_refl _) _).alloc (by simp) _).alloc (by simp;omega) _,by simp⟩
 case round =>
  obtain ⟨k,F,hk,rfl,HI⟩:=hrel
  rename World=>w3
  by_cases ak:k < q
  ·obtain ⟨ad,p,eO,hp,A0,_⟩:=HS.out.at k ak;subst eO;have oh:=hide (HS.out.src p (List.mem_of_getElem? hp));have HW:=hide (ziK hp);have Hf:=hide (wH hp)
   obtain ⟨bb,oo,su⟩:∃ b o,ad=⟨b,o,none⟩:=by
    obtain ⟨ad',p0,h0,_,A00,_⟩:=HS.out.at 0 (by omega);obtain rfl:=Option.some.inj h0;have h:=A00.c0;rw [Nat.zero_mul,add_zero] at h;have h2:=World.cell?_spot h;obtain ⟨b,o,s⟩:=ad;exact ⟨b,o,by rw [show s=none from h2]⟩
   subst su;rw [Addr.add_lit] at A0;have Ch:=hide A0;have gL:Hid (bb < w.heap.size):=World.block_lt_of_cell? _ _ A0.c0;clear A0 hp;have NT:=oh.out.big;go_upto_block 2 with fail
   go_cut [6] from 17 to 52 (fun s wx=>∃ FX:Nat -> Si,s=s/\Hid (MeI w wx FX (fun r=>ct (X.take k) r++(if r < p.P.vec.length then [⟨1,p.P.vec.getD r 0⟩] else [])) (fun r=>ct (X.take k) r++(if r < p.P.vec.length then [⟨1,p.P.vec.getD r 0⟩] else []))))
   case first =>
    go_wp2_with fail;go_loopw [6] (fun i wr=>∃ (j:Nat) (FX:Nat -> Si),j <= 16/\j <= p.vn/\i = .int .i64 j/\Hid (MeI w wr FX (fun r=>ct (X.take k) r++vp p.P j r) (fun r=>ct (X.take k) r++vp p.P j r))) (fun i _=>16 - (intOf i).toNat)
    case atStart=>exact ⟨0,F,Nat.zero_le _,Nat.zero_le _,rfl,HI.out.congr (fun r _=>by simp [vp]) (fun r _=>by simp [vp])⟩
    case round =>
     obtain ⟨y,FX,AY,NN,rfl,iE⟩:=hrel
     rename World=>w5
     clear HI;have k0:w5.cell? ⟨bb,oo+k * 2,none⟩=some (.slice p.vo p.vn p.vc):=(iE.out.bl.cell gL.out).trans Ch.out.c0;by_cases hv:y < p.vn
     ·by_cases hy:y < 16
      ·obtain ⟨va,K7,cz⟩:=qF oh.out.vec y hv;rw [K7] at k0;obtain ⟨z,Hz⟩:∃ z,Hid (p.P.vec.getD y 0=z):=⟨_,rfl⟩;rw [Hz.out] at cz
       have J9:Hid (va.block < w.heap.size):=by have:=World.block_lt_of_cell? _ _ cz;rw [zs] at this;exact this
       have Lx:=hide cz;have Eo:=hide k0
       have se:Hid ((ct (X.take k) y++vp p.P y y).length < 17592186044413):=by
        have h1:=wQ (X.take k) y;have h2:=HW.out;have h3:=HN.out
        have h4:(vp p.P y y).length=0:=by simp [vp]
        show _ < _
        rw [List.length_append];omega
       have eW:Hid ((FX y).n < 17592186044414):=by have:=iE.out.lenLo hy;have h:=se.out;show _ < _;omega
       have c1:=iE.out.a.cell y hy;obtain ⟨sa,sn,sc,hf⟩:∃ sa sn sc,(FX (y)).ao=sa/\(FX (y)).n=sn/\(FX (y)).cap=sc:=⟨_,_,_,rfl,rfl,rfl⟩;rw [hf.1,hf.2.1,hf.2.2] at c1;have HF:=hide hf;clear hf
       have y0:(0:Int) <= (y:Int):=by omega
       have y1:(y:Int) < 16:=by omega
       clear cz;go_wp2_with (at_builtin;refine iE.out.o.append iE.out.h y (by omega) 1 _ rfl eW.out rfl (.tmp 34) (.tmp 35) rfl sa sn sc HF.out rfl rfl ?_;intro g6 c6 w6 O6 h2 h3 h4;have d1:=(iE.out.mid h2).1.cell y hy;have d2:=(iE.out.mid h2).1.frozen y;have HP:=hide (iE.out.pushLo (k:=y) hy ⟨1,z⟩ O6 h2 h3 h4 (v:=.slice (some ⟨g6,0,none⟩) (sn+1) c6) rfl);clear O6 h2 h3 h4);clear eW HF c1 k0 d1 d2;generalize w6.setCell ⟨w.heap.size+1,y,none⟩ (.slice (some ⟨g6,0,none⟩) (sn+1) c6)=w7 at HP ⊢;obtain ⟨FY,gQ⟩:∃ FY,Hid (MeI w w7 FY (fun r=>if r=y then (ct (X.take k) r++vp p.P y r)++[⟨1,z⟩] else ct (X.take k) r++vp p.P y r) (fun r=>ct (X.take k) r++vp p.P y r)):=⟨_,HP⟩;clear HP iE
       have fj:Hid (∀ r,r < 16 -> (if r=y then (ct (X.take k) r++vp p.P y r)++[⟨1,z⟩] else ct (X.take k) r++vp p.P y r)=ct (X.take k) r++vp p.P (y+1) r):=fun r _=>by have:=zhK p.P (ct (X.take k)) y r;rw [Hz.out] at this;exact this
       have eW:Hid ((FY (16+y)).n < 17592186044414):=by have:=gQ.out.lenHi hy;have h:=se.out;show _ < _;omega
       have c1:=gQ.out.b.cell y hy;obtain ⟨sa,sn,sc,hf⟩:∃ sa sn sc,(FY (16+y)).ao=sa/\(FY (16+y)).n=sn/\(FY (16+y)).cap=sc:=⟨_,_,_,rfl,rfl,rfl⟩;rw [hf.1,hf.2.1,hf.2.2] at c1;have HF:=hide hf;clear hf;have c1n:=((ze w7 (.cells #[.int .i64 (z)] 3)).cell (World.block_lt_of_cell? _ _ c1)).trans c1;have c1d:=((ze w7.drew (.cells #[.int .i64 (z)] 3)).cell (World.block_lt_of_cell? w7 _ c1)).trans c1
       have cU:Hid (∀ W':World,(∀ q,q < w.heap.size -> W'.heap[q]? = w7.heap[q]?) -> W'.cell? ⟨bb,oo+k * 2,none⟩=some (.slice (some va) p.vn p.vc)/\W'.cell? (va.add y)=some (.int .i64 z)):=fun W' h=>by
        have e1:w7.cell? ⟨bb,oo+k * 2,none⟩=some (.slice (some va) p.vn p.vc):=by rw [<- K7];exact (gQ.out.bl.cell gL.out).trans Ch.out.c0
        have e2:w7.cell? (va.add y)=some (.int .i64 z):=(gQ.out.bl.cell (by rw [zs];exact J9.out)).trans Lx.out;exact ⟨(World.cell?_of_block (h _ gL.out)).trans e1,(World.cell?_of_block (by rw [zs];exact h _ J9.out)).trans e2⟩
       have ie:Hid (∀ q,q < w.heap.size -> q < w7.heap.size):=fun q h=>by have:=gQ.out.h;omega
       have mD:Hid (∀ q,q < w.heap.size -> eM FY q):=fun q h=>gQ.out.off q (Or.inl (by omega))
       have um:Hid (∀ q,q < w.heap.size -> q≠w.heap.size+1+1):=fun q h=>by omega
       have k7:=(cU.out w7 (fun q _=>rfl)).1;have z7:=(cU.out w7 (fun q _=>rfl)).2;refine wp_region_held_drew (S:=fun W=>W.cell? ⟨bb,oo+k * 2,none⟩=some (.slice (some va) p.vn p.vc)/\W.cell? (va.add y)=some (.int .i64 z)) (by kernel_rfl) (cU.out _ (fun q _=>rfl)) (fun hHeld=>?_);refine wU 0 ?_;refine wU 1 ?_;refine wU 2 ?_;refine wU 4 ?_;refine wU 5 ?_;refine wU 6 ?_;refine wU 7 ?_;refine wU 8 ?_;refine wU 9 ?_;refine wU 10 ?_;refine wU 11 ?_;refine wpAnyH_ready (rs:=[3,12]) (by kernel_rfl) (by simp) ?_;refine AllReadyH.cons rfl (fun K hK=>?_) ?_
       ·go_simp;refine hK.out _ _ (cU.out _ (fun q _=>rfl)) (fun hHeld=>?_);clear hK K;refine wpAnyH_ready (rs:=[12]) (by kernel_rfl) (by simp) (.cons rfl (fun K hK=>?_) .nil);go_simp;refine hK.out _ _ (cU.out _ (fun q hq=>Below.heap_alloc _ _ _ (ie.out q hq))) (fun hHeld=>?_);clear hK K;refine wpAnyH_ready (rs:=[13]) (by kernel_rfl) (by simp) (.cons rfl (fun K hK=>?_) .nil);refine gQ.out.o.step gQ.out.h (16+y) (by omega) (z) _ (by rfl) eW.out (by rfl) (.tmp 41) (.tmp 50) (by rfl) sa sn sc HF.out (by rfl) _ (by rfl) (by rfl) ?_;intro g6 c6 w9 O6 h2 h3 h4;have d1:=(gQ.out.mid h2).2.cell y hy;have d2:=(gQ.out.mid h2).2.frozen y;have HP:=hide (gQ.out.pushHi (k:=y) hy ⟨1,z⟩ O6 h2 h3 h4 (v:=.slice (some ⟨g6,0,none⟩) (sn+1) c6) rfl);have nv:=hide (fun q (hq:q < w.heap.size)=>(h2 q (ie.out q hq) (mD.out q hq)).2);have gv:Hid (∀ q,q < w.heap.size -> w9.heap[q]? = w7.heap[q]?):=fun q hq=>(h2 q (ie.out q hq) (mD.out q hq)).1
        have gP:Hid (∀ q,q < w.heap.size -> (w9.setCell ⟨w.heap.size+1+1,y,none⟩ (.slice (some ⟨g6,0,none⟩) (sn+1) c6)).heap[q]? = w7.heap[q]?):=fun q hq=>(zy (um.out q hq)).trans (gv.out q hq);refine hK.out _ _ (cU.out _ gv.out) (fun hHeld=>?_);clear hK K;refine wU 14 ?_;refine wpAnyH_ready (rs:=[15]) (by kernel_rfl) (by simp) (.cons rfl (fun K hK=>?_) .nil);go_simp;refine hK.out _ _ (cU.out _ gP.out) (fun hHeld=>?_);clear hK K;refine wpAnyH_done (by kernel_rfl) ?_ _;clear hHeld O6 h2 h3 h4;go_wp2_with fail;go_roundw
        case rel=>exact ⟨y+1,_,by omega,by omega,by go_num,HP.out.congr fj.out fj.out⟩
        case measure=>simp [intOf];omega
       ·refine AllReadyH.cons rfl (fun K hK=>?_) ?_;rotate_left
        ·exact AllReadyH.nil
        go_simp;refine hK.out _ _ (cU.out _ (fun q hq=>Below.heap_alloc _ _ _ (ie.out q hq))) (fun hHeld=>?_);clear hK K;refine wpAnyH_ready (rs:=[3]) (by kernel_rfl) (by simp) (.cons rfl (fun K hK=>?_) .nil);go_simp;refine hK.out _ _ (cU.out _ (fun q hq=>Below.heap_alloc _ _ _ (ie.out q hq))) (fun hHeld=>?_);clear hK K;refine wpAnyH_ready (rs:=[13]) (by kernel_rfl) (by simp) (.cons rfl (fun K hK=>?_) .nil);refine gQ.out.o.step gQ.out.h (16+y) (by omega) (z) _ (by rfl) eW.out (by rfl) (.tmp 41) (.tmp 50) (by rfl) sa sn sc HF.out (by rfl) _ (by rfl) (by rfl) ?_;intro g6 c6 w9 O6 h2 h3 h4;have d1:=(gQ.out.mid h2).2.cell y hy;have d2:=(gQ.out.mid h2).2.frozen y;have HP:=hide (gQ.out.pushHi (k:=y) hy ⟨1,z⟩ O6 h2 h3 h4 (v:=.slice (some ⟨g6,0,none⟩) (sn+1) c6) rfl);have nv:=hide (fun q (hq:q < w.heap.size)=>(h2 q (ie.out q hq) (mD.out q hq)).2)
        have gv:Hid (∀ q,q < w.heap.size -> w9.heap[q]? = w7.heap[q]?):=fun q hq=>(h2 q (ie.out q hq) (mD.out q hq)).1;have gP:Hid (∀ q,q < w.heap.size -> (w9.setCell ⟨w.heap.size+1+1,y,none⟩ (.slice (some ⟨g6,0,none⟩) (sn+1) c6)).heap[q]? = w7.heap[q]?):=fun q hq=>(zy (um.out q hq)).trans (gv.out q hq);refine hK.out _ _ (cU.out _ gv.out) (fun hHeld=>?_);clear hK K;refine wU 14 ?_;refine wpAnyH_ready (rs:=[15]) (by kernel_rfl) (by simp) (.cons rfl (fun K hK=>?_) .nil);go_simp;refine hK.out _ _ (cU.out _ gP.out) (fun hHeld=>?_);clear hK K;refine wpAnyH_done (by kernel_rfl) ?_ _;clear hHeld O6 h2 h3 h4;go_wp2_with fail;go_roundw
        case rel=>exact ⟨y+1,_,by omega,by omega,by go_num,HP.out.congr fj.out fj.out⟩
        case measure=>simp [intOf];omega
      ·obtain rfl:y=16:=by omega
       have mY:Hid (p.P.vec.length=p.vn):=oh.out.vec.1;have AK:=hide (iE.out.congr (fun r hr=>by rw [zcm p.P 16 r (by rw [mY.out];omega) (by rw [mY.out];omega) hr]) (fun r hr=>by rw [zcm p.P 16 r (by rw [mY.out];omega) (by rw [mY.out];omega) hr]));clear iE;go_wp2_with fail;go_meet;exact ⟨FX,trivial,AK.out⟩
     ·have mY:Hid (p.P.vec.length=p.vn):=oh.out.vec.1;have AK:=hide (iE.out.congr (fun r hr=>by rw [zcm p.P y r (by rw [mY.out];omega) (by rw [mY.out];omega) hr]) (fun r hr=>by rw [zcm p.P y r (by rw [mY.out];omega) (by rw [mY.out];omega) hr]));clear iE
      have sg:¬ (y:Int) < (p.vn:Int):=by omega
      go_wp2_with fail;go_meet;exact ⟨FX,trivial,AK.out⟩
   case rest =>
    obtain ⟨FX,-,iE⟩:=hcut
    rename World=>w5
    clear HI;have HL:Hid (p.P.cloud.length=p.cn):=oh.out.cloud.len;have dN:=oh.out.cloud.big;obtain ⟨AA,Is⟩:∃ AA:Nat -> List Rn,AA=fun r=>ct (X.take k) r++(if r < p.P.vec.length then [⟨1,p.P.vec.getD r 0⟩] else []):=⟨_,rfl⟩;have AI:=hide Is
    have AK:Hid (MeI w w5 FX (fun r=>AA r++ag (p.P.cloud.take 0) r) (fun r=>AA r++ag (p.P.cloud.take 0) r)):=by
     have e:∀ r,r < 16 -> ct (X.take k) r++(if r < p.P.vec.length then [⟨1,p.P.vec.getD r 0⟩] else [])=AA r++ag (p.P.cloud.take 0) r:=fun r hr=>by rw [Is];simp [ag]
     exact iE.out.congr e e
    have k1:w5.cell? ⟨bb,oo+k * 2+1,none⟩=some (.slice p.co p.cn p.cc):=by have h:=Ch.out.c1;rw [Addr.add_lit] at h;exact (AK.out.bl.cell gL.out).trans h
    clear Is iE;go_wp2_with fail;clear k1;go_loopw [7] (fun i wr=>∃ (j:Nat) (FX:Nat -> Si),j <= p.cn/\i = .int .i64 j/\Hid (MeI w wr FX (fun r=>AA r++ag (p.P.cloud.take j) r) (fun r=>AA r++ag (p.P.cloud.take j) r))) (fun i _=>p.cn - (intOf i).toNat)
    case atStart=>exact ⟨0,FX,Nat.zero_le _,rfl,AK⟩
    case round =>
     obtain ⟨j,FX,hj,rfl,iE⟩:=hrel
     rename World=>w7
     clear AK
     have k1:w7.cell? ⟨bb,oo+k * 2+1,none⟩=some (.slice p.co p.cn p.cc):=by have h:=Ch.out.c1;rw [Addr.add_lit] at h;exact (iE.out.bl.cell gL.out).trans h
     by_cases gt:j < p.cn
     ·obtain ⟨ca,hco,A1⟩:=(oh.out.cloud.below iE.out.bl).at j gt;rw [hco] at k1;obtain ⟨c,Hc⟩:∃ c,Hid (p.P.cloud.getD j sn0=c):=⟨_,rfl⟩;rw [Hc.out] at A1
      have CC:j < p.P.cloud.length:=by rw [HL.out];exact gt
      have BV:Hid (p.P.cloud.take (j+1)=p.P.cloud.take j++[c]):=by show _=_;rw [List.take_succ_eq_append_getElem CC,<- Hc.out];simp [List.getD,CC]
      have tm:=qk A1;obtain ⟨w8,oY,SB,b8,z8⟩:=lE w7 c w7.heap.size rfl;have eU:=hide (iE.out.on b8)
      have tv:Hid (∀ q,q=w7.heap.size -> eM FX q):=fun q h=>by rw [h];exact iE.out.off w7.heap.size (Or.inr (Nat.le_refl _))
      obtain ⟨m0,m1,m2⟩:=SB.at
      have pK:=hide iE.out.h;clear b8 z8 A1 SB iE CC;by_cases hr0:0 <= c.rep
      ·by_cases pT:c.rep < 16
       ·obtain ⟨y,Hy⟩:∃ y:Nat,Hid (c.rep=(y:Int)):=⟨c.rep.toNat,by show _=_;omega⟩
        have hy:y < 16:=by have:=Hy.out;omega
        have fj:Hid (∀ r,r < 16 -> (if r=y then (AA r++ag (p.P.cloud.take j) r)++[⟨c.lo,c.hi⟩] else AA r++ag (p.P.cloud.take j) r)=AA r++ag (p.P.cloud.take (j+1)) r):=fun r _=>by rw [BV.out];exact yX Hy.out r
        have se:Hid ((AA y++ag (p.P.cloud.take j) y).length < 17592186044413):=by
         have h1:=wQ (X.take k) y;have h2:=HW.out;have h3:=HN.out;have h4:=xJ (p.P.cloud.take j) y
         show _ < _
         rw [AI.out];simp only [List.length_append,List.length_take] at h4 ⊢
         split <;> simp <;> omega
        rw [Hy.out] at m0
        have y0:(0:Int) <= (y:Int):=by omega
        have y1:(y:Int) < 16:=by omega
        clear hr0 pT;go_upto_region 15 with fail;have mm0:=m0;have mm1:=m1;have mm2:=m2;clear m0 m1 m2 oY tm k1
        go_cut [] from 79 to 89 (fun wx=>∃ FY:Nat -> Si,Hid (MeI w wx FY (fun r=>if r=y then (AA r++ag (p.P.cloud.take j) r)++[⟨c.lo,c.hi⟩] else AA r++ag (p.P.cloud.take j) r) (fun r=>AA r++ag (p.P.cloud.take j) r))/\Hid (∀ q,q=w7.heap.size -> eM FY q)/\Hid (∀ q,q=w7.heap.size -> wx.heap[q]? = w8.heap[q]?))
        case first =>
         have cU:Hid (∀ W':World,(∀ q,q=w7.heap.size -> W'.heap[q]? = w8.heap[q]?) -> W'.cell? ⟨w7.heap.size,0,none⟩=some (.int .i64 (y:Int))/\W'.cell? ⟨w7.heap.size,1,none⟩=some (.int .i64 c.lo)/\W'.cell? ⟨w7.heap.size,2,none⟩=some (.int .i64 c.hi)):=fun W' h=>⟨(World.cell?_of_block (h _ rfl)).trans mm0,(World.cell?_of_block (h _ rfl)).trans mm1,(World.cell?_of_block (h _ rfl)).trans mm2⟩
         have ie:Hid (∀ q,q=w7.heap.size -> q < w8.heap.size):=fun q h=>by rw [h];exact World.block_lt_of_cell? _ _ mm0
         have mD:Hid (∀ q,q=w7.heap.size -> eM FX q):=tv.out
         have um:Hid (∀ q,q=w7.heap.size -> q≠w.heap.size+1):=fun q h=>by have:=pK.out;omega
         have eW:Hid ((FX (y)).n < 17592186044414):=by have:=eU.out.lenLo hy;have h:=se.out;show _ < _;omega
         have c1:=eU.out.a.cell y hy;obtain ⟨sa,sn,sc,hf⟩:∃ sa sn sc,(FX (y)).ao=sa/\(FX (y)).n=sn/\(FX (y)).cap=sc:=⟨_,_,_,rfl,rfl,rfl⟩;rw [hf.1,hf.2.1,hf.2.2] at c1;have HF:=hide hf;clear hf;have c1n:=((ze w8 (.cells #[.int .i64 (c.lo)] 3)).cell (World.block_lt_of_cell? _ _ c1)).trans c1;have c1d:=((ze w8.drew (.cells #[.int .i64 (c.lo)] 3)).cell (World.block_lt_of_cell? w8 _ c1)).trans c1;refine wp_region_held_drew (S:=fun W=>W.cell? ⟨w7.heap.size,0,none⟩=some (.int .i64 (y:Int))/\W.cell? ⟨w7.heap.size,1,none⟩=some (.int .i64 c.lo)/\W.cell? ⟨w7.heap.size,2,none⟩=some (.int .i64 c.hi)) (by kernel_rfl) (cU.out _ (fun q _=>rfl)) (fun hHeld=>?_);refine wU 0 ?_;refine wU 1 ?_;refine wU 2 ?_;refine wU 3 ?_;refine wU 4 ?_;refine wU 6 ?_;refine wU 7 ?_;refine wpAnyH_ready (rs:=[5,8]) (by kernel_rfl) (by simp) ?_
         refine AllReadyH.cons rfl (fun K hK=>?_) ?_
         ·go_simp;refine hK.out _ _ (cU.out _ (fun q _=>rfl)) (fun hHeld=>?_);clear hK K;refine wpAnyH_ready (rs:=[8]) (by kernel_rfl) (by simp) (.cons rfl (fun K hK=>?_) .nil);go_simp;refine hK.out _ _ (cU.out _ (fun q hq=>Below.heap_alloc _ _ _ (ie.out q hq))) (fun hHeld=>?_);clear hK K;refine wpAnyH_ready (rs:=[9]) (by kernel_rfl) (by simp) (.cons rfl (fun K hK=>?_) .nil);refine eU.out.o.step eU.out.h (y) (by omega) (c.lo) _ (by rfl) eW.out (by rfl) (.tmp 84) (.tmp 87) (by rfl) sa sn sc HF.out (by rfl) _ (by rfl) (by rfl) ?_;intro g6 c6 w9 O6 h2 h3 h4;have d1:=(eU.out.mid h2).1.cell y hy;have d2:=(eU.out.mid h2).1.frozen y;have HP:=hide (eU.out.pushLo (k:=y) hy ⟨c.lo,c.hi⟩ O6 h2 h3 h4 (v:=.slice (some ⟨g6,0,none⟩) (sn+1) c6) rfl)
          have nv:=hide (fun q (hq:q=w7.heap.size)=>(h2 q (ie.out q hq) (mD.out q hq)).2)
          have gv:Hid (∀ q,q=w7.heap.size -> w9.heap[q]? = w8.heap[q]?):=fun q hq=>(h2 q (ie.out q hq) (mD.out q hq)).1;have gP:Hid (∀ q,q=w7.heap.size -> (w9.setCell ⟨w.heap.size+1,y,none⟩ (.slice (some ⟨g6,0,none⟩) (sn+1) c6)).heap[q]? = w8.heap[q]?):=fun q hq=>(zy (um.out q hq)).trans (gv.out q hq);refine hK.out _ _ (cU.out _ gv.out) (fun hHeld=>?_);clear hK K;refine wU 10 ?_;refine wpAnyH_ready (rs:=[11]) (by kernel_rfl) (by simp) (.cons rfl (fun K hK=>?_) .nil);go_simp;refine hK.out _ _ (cU.out _ gP.out) (fun hHeld=>?_);clear hK K;refine wpAnyH_done (by kernel_rfl) ?_ _;clear hHeld O6 h2 h3 h4;go_wp2_with fail;go_meet;exact ⟨_,HP,nv,gP⟩
         ·refine AllReadyH.cons rfl (fun K hK=>?_) ?_;rotate_left
          ·exact AllReadyH.nil
          go_simp;refine hK.out _ _ (cU.out _ (fun q hq=>Below.heap_alloc _ _ _ (ie.out q hq))) (fun hHeld=>?_);clear hK K;refine wpAnyH_ready (rs:=[5]) (by kernel_rfl) (by simp) (.cons rfl (fun K hK=>?_) .nil);go_simp;refine hK.out _ _ (cU.out _ (fun q hq=>Below.heap_alloc _ _ _ (ie.out q hq))) (fun hHeld=>?_);clear hK K;refine wpAnyH_ready (rs:=[9]) (by kernel_rfl) (by simp) (.cons rfl (fun K hK=>?_) .nil);refine eU.out.o.step eU.out.h (y) (by omega) (c.lo) _ (by rfl) eW.out (by rfl) (.tmp 84) (.tmp 87) (by rfl) sa sn sc HF.out (by rfl) _ (by rfl) (by rfl) ?_;intro g6 c6 w9 O6 h2 h3 h4;have d1:=(eU.out.mid h2).1.cell y hy;have d2:=(eU.out.mid h2).1.frozen y;have HP:=hide (eU.out.pushLo (k:=y) hy ⟨c.lo,c.hi⟩ O6 h2 h3 h4 (v:=.slice (some ⟨g6,0,none⟩) (sn+1) c6) rfl)
          have nv:=hide (fun q (hq:q=w7.heap.size)=>(h2 q (ie.out q hq) (mD.out q hq)).2)
          have gv:Hid (∀ q,q=w7.heap.size -> w9.heap[q]? = w8.heap[q]?):=fun q hq=>(h2 q (ie.out q hq) (mD.out q hq)).1;have gP:Hid (∀ q,q=w7.heap.size -> (w9.setCell ⟨w.heap.size+1,y,none⟩ (.slice (some ⟨g6,0,none⟩) (sn+1) c6)).heap[q]? = w8.heap[q]?):=fun q hq=>(zy (um.out q hq)).trans (gv.out q hq);refine hK.out _ _ (cU.out _ gv.out) (fun hHeld=>?_);clear hK K;refine wU 10 ?_;refine wpAnyH_ready (rs:=[11]) (by kernel_rfl) (by simp) (.cons rfl (fun K hK=>?_) .nil);go_simp;refine hK.out _ _ (cU.out _ gP.out) (fun hHeld=>?_);clear hK K;refine wpAnyH_done (by kernel_rfl) ?_ _;clear hHeld O6 h2 h3 h4;go_wp2_with fail;go_meet;exact ⟨_,HP,nv,gP⟩
        case rest =>
         obtain ⟨FY,gQ,DY,gP⟩:=hcut
         rename World=>wA
         have mA0:=(World.cell?_of_block (gP.out _ rfl)).trans mm0;have mA1:=(World.cell?_of_block (gP.out _ rfl)).trans mm1;have mA2:=(World.cell?_of_block (gP.out _ rfl)).trans mm2;clear gP mm0 mm1 mm2 eU tv;have mm0:=mA0;have mm1:=mA1;have mm2:=mA2;have tv:=DY;clear mA0 mA1 mA2 DY;go_wp2_with fail;have cU:Hid (∀ W':World,(∀ q,q=w7.heap.size -> W'.heap[q]? = wA.heap[q]?) -> W'.cell? ⟨w7.heap.size,0,none⟩=some (.int .i64 (y:Int))/\W'.cell? ⟨w7.heap.size,1,none⟩=some (.int .i64 c.lo)/\W'.cell? ⟨w7.heap.size,2,none⟩=some (.int .i64 c.hi)):=fun W' h=>⟨(World.cell?_of_block (h _ rfl)).trans mm0,(World.cell?_of_block (h _ rfl)).trans mm1,(World.cell?_of_block (h _ rfl)).trans mm2⟩
         have ie:Hid (∀ q,q=w7.heap.size -> q < wA.heap.size):=fun q h=>by rw [h];exact World.block_lt_of_cell? _ _ mm0
         have mD:Hid (∀ q,q=w7.heap.size -> eM FY q):=tv.out
         have um:Hid (∀ q,q=w7.heap.size -> q≠w.heap.size+1+1):=fun q h=>by have:=pK.out;omega
         have eW:Hid ((FY (16+y)).n < 17592186044414):=by have:=gQ.out.lenHi hy;have h:=se.out;show _ < _;omega
         have c1:=gQ.out.b.cell y hy;obtain ⟨sa,sn,sc,hf⟩:∃ sa sn sc,(FY (16+y)).ao=sa/\(FY (16+y)).n=sn/\(FY (16+y)).cap=sc:=⟨_,_,_,rfl,rfl,rfl⟩;rw [hf.1,hf.2.1,hf.2.2] at c1;have HF:=hide hf;clear hf;have c1n:=((ze wA (.cells #[.int .i64 (c.hi)] 3)).cell (World.block_lt_of_cell? _ _ c1)).trans c1;have c1d:=((ze wA.drew (.cells #[.int .i64 (c.hi)] 3)).cell (World.block_lt_of_cell? wA _ c1)).trans c1;refine wp_region_held_drew (S:=fun W=>W.cell? ⟨w7.heap.size,0,none⟩=some (.int .i64 (y:Int))/\W.cell? ⟨w7.heap.size,1,none⟩=some (.int .i64 c.lo)/\W.cell? ⟨w7.heap.size,2,none⟩=some (.int .i64 c.hi)) (by kernel_rfl) (cU.out _ (fun q _=>rfl)) (fun hHeld=>?_);refine wU 0 ?_;refine wU 1 ?_;refine wU 2 ?_;refine wU 3 ?_;refine wU 4 ?_;refine wU 6 ?_;refine wU 7 ?_;refine wpAnyH_ready (rs:=[5,8]) (by kernel_rfl) (by simp) ?_
         refine AllReadyH.cons rfl (fun K hK=>?_) ?_
         ·go_simp;refine hK.out _ _ (cU.out _ (fun q _=>rfl)) (fun hHeld=>?_);clear hK K;refine wpAnyH_ready (rs:=[8]) (by kernel_rfl) (by simp) (.cons rfl (fun K hK=>?_) .nil);go_simp;refine hK.out _ _ (cU.out _ (fun q hq=>Below.heap_alloc _ _ _ (ie.out q hq))) (fun hHeld=>?_);clear hK K;refine wpAnyH_ready (rs:=[9]) (by kernel_rfl) (by simp) (.cons rfl (fun K hK=>?_) .nil);refine gQ.out.o.step gQ.out.h (16+y) (by omega) (c.hi) _ (by rfl) eW.out (by rfl) (.tmp 95) (.tmp 98) (by rfl) sa sn sc HF.out (by rfl) _ (by rfl) (by rfl) ?_;intro g6 c6 w9 O6 h2 h3 h4;have d1:=(gQ.out.mid h2).2.cell y hy;have d2:=(gQ.out.mid h2).2.frozen y;have HP:=hide (gQ.out.pushHi (k:=y) hy ⟨c.lo,c.hi⟩ O6 h2 h3 h4 (v:=.slice (some ⟨g6,0,none⟩) (sn+1) c6) rfl)
          have nv:=hide (fun q (hq:q=w7.heap.size)=>(h2 q (ie.out q hq) (mD.out q hq)).2)
          have gv:Hid (∀ q,q=w7.heap.size -> w9.heap[q]? = wA.heap[q]?):=fun q hq=>(h2 q (ie.out q hq) (mD.out q hq)).1;have gP:Hid (∀ q,q=w7.heap.size -> (w9.setCell ⟨w.heap.size+1+1,y,none⟩ (.slice (some ⟨g6,0,none⟩) (sn+1) c6)).heap[q]? = wA.heap[q]?):=fun q hq=>(zy (um.out q hq)).trans (gv.out q hq);refine hK.out _ _ (cU.out _ gv.out) (fun hHeld=>?_);clear hK K;refine wU 10 ?_;refine wpAnyH_ready (rs:=[11]) (by kernel_rfl) (by simp) (.cons rfl (fun K hK=>?_) .nil);go_simp;refine hK.out _ _ (cU.out _ gP.out) (fun hHeld=>?_);clear hK K;refine wpAnyH_done (by kernel_rfl) ?_ _;clear hHeld O6 h2 h3 h4;go_wp2_with fail;go_roundw
          case rel=>exact ⟨j+1,_,by omega,by go_num,HP.out.congr fj.out fj.out⟩
          case measure=>simp [intOf];omega
         ·refine AllReadyH.cons rfl (fun K hK=>?_) ?_;rotate_left
          ·exact AllReadyH.nil
          go_simp;refine hK.out _ _ (cU.out _ (fun q hq=>Below.heap_alloc _ _ _ (ie.out q hq))) (fun hHeld=>?_);clear hK K;refine wpAnyH_ready (rs:=[5]) (by kernel_rfl) (by simp) (.cons rfl (fun K hK=>?_) .nil);go_simp;refine hK.out _ _ (cU.out _ (fun q hq=>Below.heap_alloc _ _ _ (ie.out q hq))) (fun hHeld=>?_);clear hK K;refine wpAnyH_ready (rs:=[9]) (by kernel_rfl) (by simp) (.cons rfl (fun K hK=>?_) .nil);refine gQ.out.o.step gQ.out.h (16+y) (by omega) (c.hi) _ (by rfl) eW.out (by rfl) (.tmp 95) (.tmp 98) (by rfl) sa sn sc HF.out (by rfl) _ (by rfl) (by rfl) ?_;intro g6 c6 w9 O6 h2 h3 h4;have d1:=(gQ.out.mid h2).2.cell y hy;have d2:=(gQ.out.mid h2).2.frozen y;have HP:=hide (gQ.out.pushHi (k:=y) hy ⟨c.lo,c.hi⟩ O6 h2 h3 h4 (v:=.slice (some ⟨g6,0,none⟩) (sn+1) c6) rfl)
          have nv:=hide (fun q (hq:q=w7.heap.size)=>(h2 q (ie.out q hq) (mD.out q hq)).2)
          have gv:Hid (∀ q,q=w7.heap.size -> w9.heap[q]? = wA.heap[q]?):=fun q hq=>(h2 q (ie.out q hq) (mD.out q hq)).1;have gP:Hid (∀ q,q=w7.heap.size -> (w9.setCell ⟨w.heap.size+1+1,y,none⟩ (.slice (some ⟨g6,0,none⟩) (sn+1) c6)).heap[q]? = wA.heap[q]?):=fun q hq=>(zy (um.out q hq)).trans (gv.out q hq);refine hK.out _ _ (cU.out _ gv.out) (fun hHeld=>?_);clear hK K;refine wU 10 ?_;refine wpAnyH_ready (rs:=[11]) (by kernel_rfl) (by simp) (.cons rfl (fun K hK=>?_) .nil);go_simp;refine hK.out _ _ (cU.out _ gP.out) (fun hHeld=>?_);clear hK K;refine wpAnyH_done (by kernel_rfl) ?_ _;clear hHeld O6 h2 h3 h4;go_wp2_with fail;go_roundw
          case rel=>exact ⟨j+1,_,by omega,by go_num,HP.out.congr fj.out fj.out⟩
          case measure=>simp [intOf];omega
       ·have fj:Hid (∀ r,r < 16 -> AA r++ag (p.P.cloud.take j) r=AA r++ag (p.P.cloud.take (j+1)) r):=fun r hr=>by rw [BV.out];exact vF (by simp [V.isR];omega) r hr
        have Nb:=decide_eq_false pT;go_wp2_with fail;go_roundw
        case rel=>exact ⟨j+1,FX,by omega,by go_num,eU.out.congr fj.out fj.out⟩
        case measure=>simp [intOf];omega
      ·have fj:Hid (∀ r,r < 16 -> AA r++ag (p.P.cloud.take j) r=AA r++ag (p.P.cloud.take (j+1)) r):=fun r hr=>by rw [BV.out];exact vF (by simp [V.isR];omega) r hr
       go_wp2_with fail;go_roundw
       case rel=>exact ⟨j+1,FX,by omega,by go_num,eU.out.congr fj.out fj.out⟩
       case measure=>simp [intOf];omega
     ·obtain rfl:j=p.cn:=by omega
      have Kw:Hid (∀ r,r < 16 -> AA r++ag (p.P.cloud.take p.cn) r=ct (X.take (k+1)) r):=fun r _=>by
       rw [Hf.out,zaX,List.take_of_length_le (by rw [HL.out];exact Nat.le_refl _),AI.out];simp [ct,fX]
      go_wp2_with fail;go_roundw
      case rel=>exact ⟨k+1,FX,by omega,by go_num,iE.out.congr Kw.out Kw.out⟩
      case measure=>simp [intOf];omega
  ·obtain rfl:k=q:=by omega
   have Di:Hid (MeI w w3 F (ct X) (ct X)):=by have h:=HI.out;rw [List.take_of_length_le (by rw [HS.out.len];exact Nat.le_refl _)] at h;exact h
   have Cx:=hide (MeJ.start Di.out);have IH:Hid (∀ r,(ct X r).length <= 8796093022207):=fun r=>Nat.le_trans (wQ X r) HN.out;have NS:=hide Di.out.h;clear HI Di;go_wp2_with fail;obtain ⟨gs,MZ⟩:∃ gs,Hid (w3.heap.size=gs):=⟨_,rfl⟩;rw [MZ.out] at Cx ⊢;go_loopw [10] (fun i wr=>∃ (j:Nat) (T:Nat -> Si) (N:Nat -> List Rn),j <= 16/\i = .int .i64 j/\Hid (MeJ w wr gs F (ct X) T N j)) (fun i _=>16 - (intOf i).toNat)
   case atStart=>exact ⟨0,_,_,Nat.zero_le _,rfl,Cx⟩
   case round =>
    obtain ⟨y,T,N,AY,rfl,HJ⟩:=hrel
    rename World=>w6
    clear Cx;by_cases hy:y < 16
    ·have rZ:=hide HJ.out.s.lt;have ot:=HJ.out.g
     have KF:Hid ((F y).n <= 8796093022207):=by have h:=HJ.out.i.lenLo hy;have h2:=IH.out y;show _ <= _;omega
     have sA:=HJ.out.i.o.src HJ.out.i.h (r:=y) (by omega);have sB:=HJ.out.i.o.src HJ.out.i.h (r:=16+y) (by omega);have ul:(F (16+y)).n=(F y).n:=(HJ.out.i.lenHi hy).trans (HJ.out.i.lenLo hy).symm;have c1:=HJ.out.i.a.cell y hy;have c2:=HJ.out.i.b.cell y hy;rw [ul] at sB c2
     have HZ:Hid (cd (F y).L (F (16+y)).L=ct X y):=by show _=_;rw [HJ.out.i.l y hy,HJ.out.i.m y hy,zfD]
     obtain ⟨sa,n,ca,sb,cb,hf⟩:∃ sa n ca sb cb,(F y).ao=sa/\(F y).n=n/\(F y).cap=ca/\(F (16+y)).ao=sb/\(F (16+y)).cap=cb:=⟨_,_,_,_,_,rfl,rfl,rfl,rfl,rfl⟩;rw [hf.1,hf.2.1,hf.2.2.1] at sA c1;rw [hf.2.1,hf.2.2.2.1,hf.2.2.2.2] at sB c2;rw [hf.2.1] at KF;have iI:=hide (sA.below (zg w6));have gf:=hide (sB.below (zg w6));have cU:Hid (∀ W':World,(∀ q,q < gs -> W'.heap[q]? = w6.heap[q]?) -> W'.cell? ⟨w.heap.size+1,y,none⟩=some (.slice sa n ca)/\W'.cell? ⟨w.heap.size+1+1,y,none⟩=some (.slice sb n cb)):=fun W' h=>⟨(World.cell?_of_block (h _ (by show _+1 < _;omega))).trans c1,(World.cell?_of_block (h _ (by show _+1+1 < _;omega))).trans c2⟩;clear sA sB ul hf
     have y0:(0:Int) <= (y:Int):=by omega
     have y1:(y:Int) < 16:=by omega
     go_wp2_with fail;refine wp_region_held_drew (S:=fun W=>W.cell? ⟨w.heap.size+1,y,none⟩=some (.slice sa n ca)/\W.cell? ⟨w.heap.size+1+1,y,none⟩=some (.slice sb n cb)) (by kernel_rfl) (cU.out _ (fun q _=>rfl)) (fun hHeld=>?_);refine wU 0 ?_;refine wU 1 ?_;refine wU 2 ?_;refine wU 3 ?_;refine wU 4 ?_;refine wU 5 ?_;refine wU 6 ?_;refine wU 8 ?_;refine wpAnyH_ready (rs:=[7]) (by kernel_rfl) (by simp) (.cons rfl (fun K hK=>?_) .nil);go_simp;go_wp2_with fail;have Ko:=hide (HJ.out.on (zg w6));refine (zdX _ _ _ _ _ _ _ _ iI.out gf.out KF.out).mono ?_;rintro e w8 ⟨tq,tt,tc,TX,rfl,S8,f8,b8,N8⟩;have HP:=hide (Ko.out.push b8 S8 f8 (by rw [HZ.out] at N8;exact N8));have gv:Hid (∀ q,q < w6.heap.size -> w8.heap[q]? = w6.heap[q]?):=fun q hq=>b8.block q hq;have CJ:=(Ko.out.s.below b8);have e2:=CJ.frozen y;have e1:=CJ.cell y hy
     have gP:Hid (∀ q,q < gs -> (w8.setCell ⟨gs,y,none⟩ (.slice tq tt tc)).heap[q]? = w6.heap[q]?):=fun q hq=>(zy (by omega)).trans (gv.out q (by have:=rZ.out;omega));refine hK.out _ _ (cU.out _ (fun q hq=>gv.out q (by have:=rZ.out;omega))) (fun hHeld=>?_);clear hK K;refine wU 9 ?_;refine wpAnyH_ready (rs:=[10]) (by kernel_rfl) (by simp) (.cons rfl (fun K hK=>?_) .nil);go_simp;refine hK.out _ _ (cU.out _ gP.out) (fun hHeld=>?_);clear hK K;refine wpAnyH_done (by kernel_rfl) ?_ _;clear hHeld S8 f8 b8 N8 gv gP CJ e1 e2;go_wp2_with fail;go_roundw
     case rel=>exact ⟨y+1,_,_,by omega,by go_num,HP⟩
     case measure=>simp [intOf];omega
    ·obtain rfl:y=16:=by omega
     have NU:=hide HJ.out.s;have dK:=zhV HJ.out.s;have a8:=zbH (F':=T) HJ.out.i.z;have nj:=hide (aS.setRow (F':=T) HJ.out.i.z);have ot:=HJ.out.g
     have gz:Hid (gX w (w6.setRow w.heap.size (JA T)) (.returned (JAv T)) (aw X)):=by
      refine ⟨T,N,rfl,fun r hr=>?_,zh HJ.out.i.bl (Nat.le_refl _)⟩;obtain ⟨h1,h2,h3⟩:=HJ.out.t r hr;exact ⟨bv h1 (fun ad h=>setRow_other _ _ _ _ (fun e=>by have:=h2 ad h;omega)),fun ad h=>by have:=h2 ad h;omega,h3.1,fun n=>(h3.2 n).trans (zaW X r hr n)⟩
     clear HJ;go_wp2_with fail;exact bodyPost_ret (v:=JAv T) (EI Tryz.results143 rfl nj.out) rfl gz.out
end Go.Proofs.YtjffpimfngdggaaGreat
