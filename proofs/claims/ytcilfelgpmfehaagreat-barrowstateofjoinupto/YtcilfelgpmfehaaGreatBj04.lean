/- PSo -/
import Derived.Test.YtcilfelgpmfehaaGreatBj01
import Derived.Deep.RegionHeldLaw
set_option maxRecDepth 100000
set_option maxHeartbeats 4000000
namespace Go.Proofs.YtcilfelgpmfehaaGreat
open Go.RowKit
attribute [local go_sem ↓] zl zk kP kN qX xu
attribute [local go_sem] xO q7 zw zf qS qi zW xW zh qy
theorem zE (r:Int) (w:World):Calls Tryz.prog 91 #[.int .i64 r] w fun e w'=>e = .returned (.bool (V.isR r))/\w'=w:=by
 go_enter Tryz.func91,Tryz.ntmps91;by_cases h0:0 <= r
 ·have HR:Hid (V.isR r=decide (r < 16)):=by show _=_;unfold V.isR;rw [decide_eq_true h0,Bool.true_and]
  go_wp2;go_ret;exact ⟨zm HR.out.symm,rfl⟩
 ·have HR:Hid (V.isR r=false):=by show _=_;unfold V.isR;rw [decide_eq_false h0,Bool.false_and]
  go_wp2;go_ret;exact ⟨zm HR.out.symm,rfl⟩

theorem xg (ao:Option Addr) (q cap:Nat) (X:List Pv) (w:World) (hS:eT w ao q X) (hN:wt X <= 8796093022207) (hq:q <= 8796093022207) :
  Calls Tryz.prog 64 #[.slice ao q cap] w fun e w'=>Ac w w' e (aA X):=by
 have HS:=hide hS;have HN:=hide hN;clear hS hN;go_enter Tryz.func64,Tryz.ntmps64;go_wp2_with fail;go_loopw [12] (fun i wr=>∃ (k:Nat) (F:Nat -> Sl),k <= q/\i = .int .i64 k/\Hid (fh w wr F (aA (X.take k)))) (fun i _=>q - (intOf i).toNat)
 case atStart =>
  refine ⟨0,fun _=>sl0,Nat.zero_le _,rfl,⟨(jc w _).below (ze _ _),?_,cR.nil _ _,fun r _=>rfl,((Below.refl _ _).alloc (Nat.le_refl _) _).alloc (by simp) _,by simp⟩⟩;have:=jc (w.alloc (.cells (SA fun _=>sl0) 113)) (fun _=>sl0);rw [World.size_alloc] at this;exact this
 case round =>
  obtain ⟨k,F,hk,rfl,HI⟩:=hrel
  rename World=>w3
  by_cases aq:k < q
  ·obtain ⟨ad,p,rfl,hp,A0,_⟩:=(HS.out.below HI.out.b).at k aq;have AD:=hide (HS.out.src p (List.mem_of_getElem? hp));have dz:=zi A0;obtain ⟨w4,cr,PB,b4,z4⟩:=ip w3 p w3.heap.size rfl;have HW:=hide (zg0 hp);have L8:=hide (bw hp);have nG:=hide (HI.out.on b4);have me:=hide PB;have Ji:=hide (HI.out.off w3.heap.size (Or.inr (Nat.le_refl _)));have om:=hide HI.out.h;clear A0 PB b4 z4 hp;go_wp2_with fail;go_loopw [16] (fun i wr=>∃ (j:Nat) (F:Nat -> Sl),j <= 16/\i = .int .i64 j/\Hid (fh w wr F (fun r=>aA (X.take k) r++(if r < j then aQ (V.at' p.P.vec r) else [])))/\Hid (wr.heap[w3.heap.size]? = some (.cells (PC p) 26 (0,0))/\Off F w3.heap.size)) (fun i _=>16 - (intOf i).toNat)
   case atStart=>exact ⟨0,F,Nat.zero_le _,rfl,nG.out.congr (fun r _=>by simp),me.out,Ji.out⟩
   case round =>
    obtain ⟨j,F,hj,rfl,HI,EI⟩:=hrel
    rename World=>w5
    clear nG me Ji;have PB:aE w5 w3.heap.size p:=EI.out.1;obtain ⟨n0,n1⟩:=PB.nums;have oV:=hide (AD.out.below HI.out.b);have EA:=HW.out;have AF:=HN.out;by_cases iy:j < 16
    ·have Gx:Hid (V.atI p.P.vec j=V.at' p.P.vec j):=by show _=_;unfold V.atI;rw [if_pos (by simp [V.isR];omega),Int.toNat_natCast]
     obtain ⟨z,Hz⟩:∃ z,Hid (V.at' p.P.vec j=z):=⟨_,rfl⟩;rw [Hz.out] at Gx;by_cases hz:0 < z
     ·have ou:=HI.out.len iy;have m9:=kC (X.take k) j;have iV:=hide (fun r (_:r < 16)=>zdZ (A:=aA (X.take k)) (f:=V.at' p.P.vec) Hz.out hz r);simp only [Nat.lt_irrefl,if_false,List.append_nil] at ou
      have gl:Hid ((F j).n < 8796093022207):=by show _ < _;omega
      have c1:=HI.out.s.cell j iy;obtain ⟨sa,sn,sc,hf⟩:∃ sa sn sc,(F j).ao=sa/\(F j).n=sn/\(F j).cap=sc:=⟨_,_,_,rfl,rfl,rfl⟩;rw [hf.1,hf.2.1,hf.2.2] at c1;have HF:=hide hf;clear hf ou m9 EA AF;go_wp2_with (first | (go_at_call 90;refine (V.qR _ _ _ p.P.vec j _ oV.out.vec).mono ?_;rintro e w' ⟨rfl,rfl⟩;rw [Gx.out]) | (at_builtin;refine HI.out.o.append HI.out.h j iy ⟨1,z⟩ _ rfl gl.out rfl (.tmp 28) (.tmp 31) rfl sa sn sc HF.out rfl rfl ?_;intro g6 c6 w6 O6 h2 h3 h4;have d1:=(HI.out.mid h2).cell j iy;have d2:=(HI.out.mid h2).frozen j;have HP:=hide (HI.out.push j iy ⟨1,z⟩ sn c6 g6 O6 h2 h3 h4 _ rfl);have HK:=hide (kl (B:=w.heap.size+1) (k:=j) (v:=.slice (some ⟨g6,0,none⟩) (sn+1) c6) h2 PB.lt EI.out.2 (by have:=om.out;omega));clear O6 h2 h3 h4));go_roundw
      case rel=>exact ⟨j+1,_,by omega,by go_num,HP.out.congr iV.out,HK.out.1.trans PB,HK.out.2⟩
      case measure=>simp [intOf];omega
     ·have iV:=hide (fun r (_:r < 16)=>zd0 (A:=aA (X.take k)) (f:=V.at' p.P.vec) Hz.out hz r);go_wp2_with (go_at_call 90;refine (V.qR _ _ _ p.P.vec j _ oV.out.vec).mono ?_;rintro e w' ⟨rfl,rfl⟩;rw [Gx.out]);go_roundw
      case rel=>exact ⟨j+1,F,by omega,by go_num,HI.out.congr iV.out,EI⟩
      case measure=>simp [intOf];omega
    ·obtain rfl:j=16:=by omega
     have HL:=oV.out.cloud.len;have dV:=oV.out.cloud.big;have J2:=hide (HI.out.congr (G':=fun r=>(aA (X.take k) r++aQ (V.at' p.P.vec r))++ag (p.P.cloud.take 0) r) (fun r hr=>by simp [hr,ag]));clear EA AF;obtain ⟨co,KX⟩:∃ co,Hid (p.co=co):=⟨_,rfl⟩;have ma:=hide AD.out.cloud;rw [KX.out] at n1 ma;rw [show ((16:Nat):Int)=16 from rfl];go_wp2_with fail;go_loopw [38] (fun i wr=>∃ (j:Nat) (F:Nat -> Sl),j <= p.cn/\i = .int .i64 j/\Hid (fh w wr F (fun r=>(aA (X.take k) r++aQ (V.at' p.P.vec r))++ag (p.P.cloud.take j) r))) (fun i _=>p.cn - (intOf i).toNat)
     case atStart=>exact ⟨0,F,Nat.zero_le _,rfl,J2⟩
     case round =>
      obtain ⟨j,F,hj,rfl,HI⟩:=hrel
      rename World=>w7
      clear J2 EI PB n0 n1 oV om;by_cases iy:j < p.cn
      ·obtain ⟨ca,rfl,A1⟩:=(ma.out.below HI.out.b).at j iy;obtain ⟨c,Hc⟩:∃ c,Hid (p.P.cloud.getD j sn0=c):=⟨_,rfl⟩;rw [Hc.out] at A1
       have IN:j < p.P.cloud.length:=by rw [HL];exact iy
       have Ix:Hid (p.P.cloud.take (j+1)=p.P.cloud.take j++[c]):=by show _=_;rw [List.take_succ_eq_append_getElem IN,<- Hc.out];simp [List.getD,IN]
       have AS:=zS A1;obtain ⟨w8,Cv,SB,b8,z8⟩:=fI w7 c w7.heap.size rfl;have gq:=hide (HI.out.on b8);have rH:=hide (HI.out.off w7.heap.size (Or.inr (Nat.le_refl _)))
       obtain ⟨m0,m1,m2⟩:=SB.at
       have gk:=hide SB;have BL:=hide HI.out.h;clear b8 z8 A1 SB;obtain ⟨x,Hx⟩:∃ x,Hid (V.isR c.rep=x):=⟨_,rfl⟩
       cases x with
       | false =>
        have iV:=hide (fun r (hr:r < 16)=>zcj (A:=fun r=>aA (X.take k) r++aQ (V.at' p.P.vec r)) (L:=p.P.cloud.take j) Hx.out r hr);rw [<- Ix.out] at iV;go_wp2_with (go_at_call 91;refine (zE c.rep _).mono ?_;rintro e w' ⟨rfl,rfl⟩;rw [Hx.out]);go_roundw
        case rel=>exact ⟨j+1,F,by omega,by go_num,gq.out.congr iV.out⟩
        case measure=>simp [intOf];omega
       | true =>
        have F9:0 <= c.rep/\c.rep < 16:=by have:=Hx.out;unfold V.isR at this;simpa using this
        obtain ⟨y,Hy⟩:∃ y:Nat,Hid (c.rep=(y:Int)):=⟨c.rep.toNat,by show _=_;omega⟩
        have hy:y < 16:=by have:=Hy.out;omega
        have iV:=hide (fun r (_:r < 16)=>zci (A:=fun r=>aA (X.take k) r++aQ (V.at' p.P.vec r)) (L:=p.P.cloud.take j) Hy.out r);rw [<- Ix.out] at iV
        have gl:Hid ((F y).n < 8796093022207):=by
         have h1:=HI.out.len hy;have h2:=kC (X.take k) y;have h3:=vB (V.at' p.P.vec y);have h4:=kw (p.P.cloud.take j) y;have h5:=HW.out;have h6:=HN.out;simp only [List.length_append,List.length_take] at h1 h4
         show _ < _
         omega
        rw [Hy.out] at m0;have c1:=gq.out.s.cell y hy;obtain ⟨sa,sn,sc,hf⟩:∃ sa sn sc,(F y).ao=sa/\(F y).n=sn/\(F y).cap=sc:=⟨_,_,_,rfl,rfl,rfl⟩;rw [hf.1,hf.2.1,hf.2.2] at c1;have HF:=hide hf
        have y0:(0:Int) <= (y:Int):=by omega
        have y1:(y:Int) < 16:=by omega
        have fU:Hid (∀ W:World,W.heap[w7.heap.size]? = w8.heap[w7.heap.size]? -> W.cell? ⟨w7.heap.size,0,none⟩=some (.int .i64 (y:Int))/\W.cell? ⟨w7.heap.size,1,none⟩=some (.int .i64 c.lo)/\W.cell? ⟨w7.heap.size,2,none⟩=some (.int .i64 c.hi)):=fun W e1 =>
         ⟨(World.cell?_of_block e1).trans m0,(World.cell?_of_block e1).trans m1,(World.cell?_of_block e1).trans m2⟩
        have a1:=((ze w8 (.cells #[.int .i64 c.lo,.int .i64 c.hi] 139)).cell (World.block_lt_of_cell? _ _ c1)).trans c1;have LU:=hide (World.block_lt_of_cell? _ _ c1);clear hf F9;go_wp2_with (go_at_call 91;refine (zE _ _).mono ?_;rintro e w' ⟨rfl,rfl⟩;rw [<- Hy.out,Hx.out]);refine wp_region_held_drew (S:=fun W=>W.cell? ⟨w7.heap.size,0,none⟩=some (.int .i64 (y:Int))/\W.cell? ⟨w7.heap.size,1,none⟩=some (.int .i64 c.lo)/\W.cell? ⟨w7.heap.size,2,none⟩=some (.int .i64 c.hi)) (by kernel_rfl) (fU.out _ rfl) (fun hHeld=>?_);refine wU 0 ?_;refine wU 1 ?_;refine wU 2 ?_;refine wU 3 ?_;refine wU 4 ?_;refine wU 6 ?_;refine wU 7 ?_;refine wU 8 ?_;refine wU 9 ?_;refine wU 10 ?_;refine wpAnyH_ready (rs:=[5,11]) (by kernel_rfl) (by simp) ?_;refine AllReadyH.cons rfl (fun K hK=>?_) ?_
        ·go_simp;refine hK.out _ _ (fU.out _ rfl) (fun hHeld=>?_);clear hK K;refine wR 11 fun K hK=>?_;go_simp;refine hK.out _ _ (fU.out _ (Below.heap_alloc _ _ _ gk.out.lt)) (fun hHeld=>?_);clear hK K;refine wR 12 fun K hK=>?_;refine gq.out.o.step gq.out.h y hy ⟨c.lo,c.hi⟩ _ (by rfl) gl.out (by rfl) (.tmp 50) (.tmp 56) (by rfl) sa sn sc HF.out (by rfl) _ (by rfl) (by rfl) ?_;intro g6 c6 w6 O6 h2 h3 h4;have d1:=(gq.out.mid h2).cell y hy;have d2:=(gq.out.mid h2).frozen y;have HP:=hide (gq.out.push y hy ⟨c.lo,c.hi⟩ sn c6 g6 O6 h2 h3 h4 _ rfl);have uf:=hide (kl (B:=w.heap.size+1) (k:=y) (v:=.slice (some ⟨g6,0,none⟩) (sn+1) c6) h2 gk.out.lt rH.out (by have:=BL.out;omega)).1;refine hK.out _ _ (fU.out _ (h2 _ gk.out.lt rH.out).1) (fun hHeld=>?_)
         clear hK K;refine wU 13 ?_;refine wR 14 fun K hK=>?_;go_simp;refine hK.out _ _ (fU.out _ uf.out) (fun hHeld=>?_);clear hK K;refine wD ?_ _;clear hHeld O6 h2 h3 h4;go_wp2_with fail;go_roundw
         case rel=>exact ⟨j+1,_,by omega,by go_num,HP.out.congr iV.out⟩
         case measure=>simp [intOf];omega
        ·refine AllReadyH.cons rfl (fun K hK=>?_) ?_;rotate_left
         ·exact AllReadyH.nil
         go_simp;refine hK.out _ _ (fU.out _ (Below.heap_alloc _ _ _ gk.out.lt)) (fun hHeld=>?_);clear hK K;refine wR 5 fun K hK=>?_;go_simp;refine hK.out _ _ (fU.out _ (Below.heap_alloc _ _ _ gk.out.lt)) (fun hHeld=>?_);clear hK K;refine wR 12 fun K hK=>?_;refine gq.out.o.step gq.out.h y hy ⟨c.lo,c.hi⟩ _ (by rfl) gl.out (by rfl) (.tmp 50) (.tmp 56) (by rfl) sa sn sc HF.out (by rfl) _ (by rfl) (by rfl) ?_;intro g6 c6 w6 O6 h2 h3 h4;have d1:=(gq.out.mid h2).cell y hy;have d2:=(gq.out.mid h2).frozen y;have HP:=hide (gq.out.push y hy ⟨c.lo,c.hi⟩ sn c6 g6 O6 h2 h3 h4 _ rfl);have uf:=hide (kl (B:=w.heap.size+1) (k:=y) (v:=.slice (some ⟨g6,0,none⟩) (sn+1) c6) h2 gk.out.lt rH.out (by have:=BL.out;omega)).1
         refine hK.out _ _ (fU.out _ (h2 _ gk.out.lt rH.out).1) (fun hHeld=>?_);clear hK K;refine wU 13 ?_;refine wR 14 fun K hK=>?_;go_simp;refine hK.out _ _ (fU.out _ uf.out) (fun hHeld=>?_);clear hK K;refine wD ?_ _;clear hHeld O6 h2 h3 h4;go_wp2_with fail;go_roundw
         case rel=>exact ⟨j+1,_,by omega,by go_num,HP.out.congr iV.out⟩
         case measure=>simp [intOf];omega
      ·obtain rfl:j=p.cn:=by omega
       have iV:Hid (∀ r,r < 16 -> (aA (X.take k) r++aQ (V.at' p.P.vec r))++ag (p.P.cloud.take p.cn) r=aA (X.take (k+1)) r):=fun r _=>by
        rw [L8.out,yF,xi,aa,<- HL,List.take_length,List.append_assoc]
       go_wp2_with fail;go_roundw
       case rel=>exact ⟨k+1,F,by omega,by go_num,HI.out.congr iV.out⟩
       case measure=>simp [intOf];omega
  ·obtain rfl:k=q:=by omega
   have l1:=vI HI.out.s;have s1:=vH (F':=F) HI.out.z
   have HF:Hid (∀ r,r < 16 -> (F r).L=aA X r):=fun r hr=>by rw [HI.out.l r hr,<- HS.out.len,List.take_length]
   have HB:Hid (cX w.heap.size (w3.setRow w.heap.size (SA F)) F (aA X)):=by
    have hO:cR (w.heap.size+2) (w3.setRow w.heap.size (SA F)) F:=HI.out.o.kept (fun q hq hno=>setRow_other _ _ _ _ (fun e=>hno (by rw [e];exact HI.out.off _ (Or.inl (by omega)))));have aq:∀ r,r < 16 -> ∀ ad,(F r).ao=some ad -> w.heap.size+2 <= ad.block/\ad.block < (w3.setRow w.heap.size (SA F)).heap.size:=fun r hr ad e=>hO.lt hr (by unfold blk;rw [e];rfl);refine ⟨fun r hr=>hO.src (by have:=HI.out.h;simp [World.setRow];omega) hr ?_,HF.out,fun r hr ad e=>by have:=aq r hr ad e;omega,fun r hr ad e=>(aq r hr ad e).2⟩;have h1:=kC X r;have h2:=HI.out.o.len hr;have h3:=HF.out r hr;have h4:=HN.out;rw [h3] at h2;omega
   go_wp2_with fail;exact bodyPost_ret (v:=SAv F) (Ir Tryz.results64 rfl HI.out.z.setRow) rfl ⟨F,rfl,HB.out,zg HI.out.b (Nat.le_refl _)⟩
end Go.Proofs.YtcilfelgpmfehaaGreat
