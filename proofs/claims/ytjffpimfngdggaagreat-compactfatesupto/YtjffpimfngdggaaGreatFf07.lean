/- PSo PCa PNm QRn -/
import Derived.Deep.RegionHeldLaw
import Derived.Test.YtjffpimfngdggaaGreatFf04
import Derived.Test.YtjffpimfngdggaaGreatFf06
set_option maxRecDepth 100000
set_option maxHeartbeats 4000000
namespace Go.Proofs.YtjffpimfngdggaaGreat
section
open Go.RowKit
attribute [local go_sem ↓] zq zp vW vU x9 jv
attribute [local go_sem] jf xt zI zi xV qD qq ky zk xf
theorem zN (r:Int) (w:World):Calls Tryz.prog 108 #[.int .i64 r] w fun e w'=>e = .returned (.bool (V.isR r))/\w'=w:=by
 go_enter Tryz.func108,Tryz.ntmps108;by_cases h0:0 <= r
 ·have HR:Hid (V.isR r=decide (r < 16)):=by show _=_;unfold V.isR;rw [decide_eq_true h0,Bool.true_and]
  go_wp2;go_ret;exact ⟨zt HR.symm,rfl⟩
 ·have HR:Hid (V.isR r=false):=by show _=_;unfold V.isR;rw [decide_eq_false h0,Bool.false_and]
  go_wp2;go_ret;exact ⟨zt HR.symm,rfl⟩

theorem xw (ao:Option Addr) (q cap:Nat) (X:List Pv) (w:World) (hS:fN w ao q X) (hN:wt X <= 8796093022207) (hq:q <= 8796093022207) :
  Calls Tryz.prog 90 #[.slice ao q cap] w fun e w'=>Cu w w' e (aA X):=by
 have HS:=hide hS;have HN:=hide hN;clear hS hN;go_enter Tryz.func90,Tryz.ntmps90;go_wp2_with fail;go_loopw [12] (fun i wr=>∃ (k:Nat) (F:Nat -> Sl),k <= q/\i = .int .i64 k/\Hid (gD w wr F (aA (X.take k)))) (fun i _=>q - (intOf i).toNat)
 case atStart =>
  refine ⟨0,fun _=>sl0,Nat.zero_le _,rfl,⟨(jB w _).below (ze _ _),?_,dj.nil _ _,fun r _=>rfl,((Below.refl _ _).alloc (Nat.le_refl _) _).alloc (by simp) _,by simp⟩⟩;have:=jB (w.alloc (.cells (SA fun _=>sl0) 136)) (fun _=>sl0);rw [World.size_alloc] at this;exact this
 case round =>
  obtain ⟨k,F,hk,rfl,HI⟩:=hrel
  rename World=>w3
  by_cases ak:k < q
  ·obtain ⟨ad,p,rfl,hp,A0,_⟩:=(HS.below HI.b).at k ak;have o6:=hide (HS.src p (List.mem_of_getElem? hp));have dF:=zj A0;obtain ⟨w4,cd,PB,b4,z4⟩:=iP w3 p w3.heap.size rfl;have HW:=hide (zja hp);have Jn:=hide (wQ hp);have uX:=hide (HI.on b4);have i9:=hide PB;have mX:=hide (HI.off w3.heap.size (Or.inr (Nat.le_refl _)));have ry:=hide HI.h;clear A0 PB b4 z4 hp;go_wp2_with fail;go_loopw [16] (fun i wr=>∃ (j:Nat) (F:Nat -> Sl),j <= 16/\i = .int .i64 j/\Hid (gD w wr F (fun r=>aA (X.take k) r++(if r < j then aZ (V.at' p.P.vec r) else [])))/\Hid (wr.heap[w3.heap.size]? = some (.cells (PC p) 26 (0,0))/\Off F w3.heap.size)) (fun i _=>16 - (intOf i).toNat)
   case atStart=>exact ⟨0,F,Nat.zero_le _,rfl,uX.congr (fun r _=>by simp),i9.out,mX.out⟩
   case round =>
    obtain ⟨j,F,hj,rfl,HI,Al⟩:=hrel
    rename World=>w5
    clear uX i9 mX;have PB:av w5 w3.heap.size p:=Al.1;obtain ⟨n0,n1⟩:=PB.nums;have r8:=hide (o6.below HI.b);have Fw:=HW.out;have mL:=HN.out;by_cases iw:j < 16
    ·have Ja:Hid (V.atI p.P.vec j=V.at' p.P.vec j):=by show _=_;unfold V.atI;rw [if_pos (by simp [V.isR];omega),Int.toNat_natCast]
     obtain ⟨z,Hz⟩:∃ z,Hid (V.at' p.P.vec j=z):=⟨_,rfl⟩;rw [Hz.out] at Ja;by_cases hz:0 < z
     ·have iv:=HI.len iw;have iV:=vE (X.take k) j;have fQ:=hide (fun r (_:r < 16)=>zgk (A:=aA (X.take k)) (f:=V.at' p.P.vec) Hz.out hz r);simp only [Nat.lt_irrefl,if_false,List.append_nil] at iv
      have fI:Hid ((F j).n < 8796093022207):=by show _ < _;omega
      have c1:=HI.s.cell j iw;obtain ⟨sa,sn,sc,hf⟩:∃ sa sn sc,(F j).ao=sa/\(F j).n=sn/\(F j).cap=sc:=⟨_,_,_,rfl,rfl,rfl⟩;rw [hf.1,hf.2.1,hf.2.2] at c1;have HF:=hide hf;clear hf iv iV Fw mL;go_wp2_with (first | (go_at_call 109;refine (V.xj _ _ _ p.P.vec j _ r8.vec).mono ?_;rintro e w' ⟨rfl,rfl⟩;rw [Ja.out]) | (at_builtin;refine HI.o.append HI.h j iw ⟨1,z⟩ _ rfl fI.out rfl (.tmp 28) (.tmp 31) rfl sa sn sc HF.out rfl rfl ?_;intro g6 c6 w6 O6 h2 h3 h4;have d1:=(HI.mid h2).cell j iw;have d2:=(HI.mid h2).frozen j;have HP:=hide (HI.push j iw ⟨1,z⟩ sn c6 g6 O6 h2 h3 h4 _ rfl);have HK:=hide (kY (B:=w.heap.size+1) (k:=j) (v:=.slice (some ⟨g6,0,none⟩) (sn+1) c6) h2 PB.lt Al.2 (by have:=ry.out;omega));clear O6 h2 h3 h4));go_roundw
      case rel=>exact ⟨j+1,_,by omega,by go_num,HP.congr fQ,HK.1.trans PB,HK.2⟩
      case measure=>simp [intOf];omega
     ·have fQ:=hide (fun r (_:r < 16)=>zgl (A:=aA (X.take k)) (f:=V.at' p.P.vec) Hz.out hz r);go_wp2_with (go_at_call 109;refine (V.xj _ _ _ p.P.vec j _ r8.vec).mono ?_;rintro e w' ⟨rfl,rfl⟩;rw [Ja.out]);go_roundw
      case rel=>exact ⟨j+1,F,by omega,by go_num,HI.congr fQ,Al⟩
      case measure=>simp [intOf];omega
    ·obtain rfl:j=16:=by omega
     have HL:=r8.cloud.len;have dU:=r8.cloud.big;have Lz:=hide (HI.congr (G':=fun r=>(aA (X.take k) r++aZ (V.at' p.P.vec r))++aj (p.P.cloud.take 0) r) (fun r hr=>by simp [hr,aj]));clear Fw mL;obtain ⟨co,My⟩:∃ co,Hid (p.co=co):=⟨_,rfl⟩;have tI:=hide o6.cloud;rw [My.out] at n1 tI;rw [show ((16:Nat):Int)=16 from rfl];go_wp2_with fail;go_loopw [38] (fun i wr=>∃ (j:Nat) (F:Nat -> Sl),j <= p.cn/\i = .int .i64 j/\Hid (gD w wr F (fun r=>(aA (X.take k) r++aZ (V.at' p.P.vec r))++aj (p.P.cloud.take j) r))) (fun i _=>p.cn - (intOf i).toNat)
     case atStart=>exact ⟨0,F,Nat.zero_le _,rfl,Lz⟩
     case round =>
      obtain ⟨j,F,hj,rfl,HI⟩:=hrel
      rename World=>w7
      clear Lz Al PB n0 n1 r8 ry;by_cases iw:j < p.cn
      ·obtain ⟨ca,rfl,A1⟩:=(tI.below HI.b).at j iw;obtain ⟨c,Hc⟩:∃ c,Hid (p.P.cloud.getD j sn0=c):=⟨_,rfl⟩;rw [Hc.out] at A1
       have C7:j < p.P.cloud.length:=by rw [HL];exact iw
       have C5:Hid (p.P.cloud.take (j+1)=p.P.cloud.take j++[c]):=by show _=_;rw [List.take_succ_eq_append_getElem C7,<- Hc.out];simp [List.getD,C7]
       have tH:=qk A1;obtain ⟨w8,pM,SB,b8,z8⟩:=iL w7 c w7.heap.size rfl;have fL:=hide (HI.on b8);have uu:=hide (HI.off w7.heap.size (Or.inr (Nat.le_refl _)))
       obtain ⟨m0,m1,m2⟩:=SB.at
       have gC:=hide SB;have rX:=hide HI.h;clear b8 z8 A1 SB;obtain ⟨x,Hx⟩:∃ x,Hid (V.isR c.rep=x):=⟨_,rfl⟩
       cases x with
       | false =>
        have fQ:=hide (fun r (hr:r < 16)=>vP (A:=fun r=>aA (X.take k) r++aZ (V.at' p.P.vec r)) (L:=p.P.cloud.take j) Hx.out r hr);rw [<- C5.out] at fQ;go_wp2_with (go_at_call 108;refine (zN c.rep _).mono ?_;rintro e w' ⟨rfl,rfl⟩;rw [Hx.out]);go_roundw
        case rel=>exact ⟨j+1,F,by omega,by go_num,fL.congr fQ⟩
        case measure=>simp [intOf];omega
       | true =>
        have G7:0 <= c.rep/\c.rep < 16:=by have:=Hx.out;unfold V.isR at this;simpa using this
        obtain ⟨y,Hy⟩:∃ y:Nat,Hid (c.rep=(y:Int)):=⟨c.rep.toNat,by show _=_;omega⟩
        have hy:y < 16:=by have:=Hy.out;omega
        have fQ:=hide (fun r (_:r < 16)=>bz (A:=fun r=>aA (X.take k) r++aZ (V.at' p.P.vec r)) (L:=p.P.cloud.take j) Hy.out r);rw [<- C5.out] at fQ
        have fI:Hid ((F y).n < 8796093022207):=by
         have h1:=HI.len hy;have h2:=vE (X.take k) y;have h3:=wO (V.at' p.P.vec y);have h4:=xQ (p.P.cloud.take j) y;have h5:=HW.out;have h6:=HN.out;simp only [List.length_append,List.length_take] at h1 h4
         show _ < _
         omega
        rw [Hy.out] at m0;have c1:=fL.s.cell y hy;obtain ⟨sa,sn,sc,hf⟩:∃ sa sn sc,(F y).ao=sa/\(F y).n=sn/\(F y).cap=sc:=⟨_,_,_,rfl,rfl,rfl⟩;rw [hf.1,hf.2.1,hf.2.2] at c1;have HF:=hide hf
        have y0:(0:Int) <= (y:Int):=by omega
        have y1:(y:Int) < 16:=by omega
        have cG:Hid (∀ W:World,W.heap[w7.heap.size]? = w8.heap[w7.heap.size]? -> W.cell? ⟨w7.heap.size,0,none⟩=some (.int .i64 (y:Int))/\W.cell? ⟨w7.heap.size,1,none⟩=some (.int .i64 c.lo)/\W.cell? ⟨w7.heap.size,2,none⟩=some (.int .i64 c.hi)):=fun W e1 =>
         ⟨(World.cell?_of_block e1).trans m0,(World.cell?_of_block e1).trans m1,(World.cell?_of_block e1).trans m2⟩
        have a1:=((ze w8 (.cells #[.int .i64 c.lo,.int .i64 c.hi] 182)).cell (World.block_lt_of_cell? _ _ c1)).trans c1;have Mi:=hide (World.block_lt_of_cell? _ _ c1);clear hf G7;go_wp2_with (go_at_call 108;refine (zN _ _).mono ?_;rintro e w' ⟨rfl,rfl⟩;rw [<- Hy.out,Hx.out]);refine wp_region_held_drew (S:=fun W=>W.cell? ⟨w7.heap.size,0,none⟩=some (.int .i64 (y:Int))/\W.cell? ⟨w7.heap.size,1,none⟩=some (.int .i64 c.lo)/\W.cell? ⟨w7.heap.size,2,none⟩=some (.int .i64 c.hi)) (by kernel_rfl) (cG.out _ rfl) (fun hHeld=>?_);refine wU 0 ?_;refine wU 1 ?_;refine wU 2 ?_;refine wU 3 ?_;refine wU 4 ?_;refine wU 6 ?_;refine wU 7 ?_;refine wU 8 ?_;refine wU 9 ?_;refine wU 10 ?_;refine wpAnyH_ready (rs:=[5,11]) (by kernel_rfl) (by simp) ?_;refine AllReadyH.cons rfl (fun K hK=>?_) ?_
        ·go_simp;refine hK.out _ _ (cG.out _ rfl) (fun hHeld=>?_);clear hK K;refine wR 11 fun K hK=>?_;go_simp;refine hK.out _ _ (cG.out _ (Below.heap_alloc _ _ _ gC.lt)) (fun hHeld=>?_);clear hK K;refine wR 12 fun K hK=>?_;refine fL.o.step fL.h y hy ⟨c.lo,c.hi⟩ _ (by rfl) fI.out (by rfl) (.tmp 50) (.tmp 56) (by rfl) sa sn sc HF.out (by rfl) _ (by rfl) (by rfl) ?_;intro g6 c6 w6 O6 h2 h3 h4;have d1:=(fL.mid h2).cell y hy;have d2:=(fL.mid h2).frozen y;have HP:=hide (fL.push y hy ⟨c.lo,c.hi⟩ sn c6 g6 O6 h2 h3 h4 _ rfl);have sh:=hide (kY (B:=w.heap.size+1) (k:=y) (v:=.slice (some ⟨g6,0,none⟩) (sn+1) c6) h2 gC.lt uu.out (by have:=rX.out;omega)).1;refine hK.out _ _ (cG.out _ (h2 _ gC.lt uu).1) (fun hHeld=>?_)
         clear hK K;refine wU 13 ?_;refine wR 14 fun K hK=>?_;go_simp;refine hK.out _ _ (cG.out _ sh) (fun hHeld=>?_);clear hK K;refine wD ?_ _;clear hHeld O6 h2 h3 h4;go_wp2_with fail;go_roundw
         case rel=>exact ⟨j+1,_,by omega,by go_num,HP.congr fQ⟩
         case measure=>simp [intOf];omega
        ·refine AllReadyH.cons rfl (fun K hK=>?_) ?_;rotate_left
         ·exact AllReadyH.nil
         go_simp;refine hK.out _ _ (cG.out _ (Below.heap_alloc _ _ _ gC.lt)) (fun hHeld=>?_);clear hK K;refine wR 5 fun K hK=>?_;go_simp;refine hK.out _ _ (cG.out _ (Below.heap_alloc _ _ _ gC.lt)) (fun hHeld=>?_);clear hK K;refine wR 12 fun K hK=>?_;refine fL.o.step fL.h y hy ⟨c.lo,c.hi⟩ _ (by rfl) fI.out (by rfl) (.tmp 50) (.tmp 56) (by rfl) sa sn sc HF.out (by rfl) _ (by rfl) (by rfl) ?_;intro g6 c6 w6 O6 h2 h3 h4;have d1:=(fL.mid h2).cell y hy;have d2:=(fL.mid h2).frozen y;have HP:=hide (fL.push y hy ⟨c.lo,c.hi⟩ sn c6 g6 O6 h2 h3 h4 _ rfl);have sh:=hide (kY (B:=w.heap.size+1) (k:=y) (v:=.slice (some ⟨g6,0,none⟩) (sn+1) c6) h2 gC.lt uu.out (by have:=rX.out;omega)).1
         refine hK.out _ _ (cG.out _ (h2 _ gC.lt uu).1) (fun hHeld=>?_);clear hK K;refine wU 13 ?_;refine wR 14 fun K hK=>?_;go_simp;refine hK.out _ _ (cG.out _ sh) (fun hHeld=>?_);clear hK K;refine wD ?_ _;clear hHeld O6 h2 h3 h4;go_wp2_with fail;go_roundw
         case rel=>exact ⟨j+1,_,by omega,by go_num,HP.congr fQ⟩
         case measure=>simp [intOf];omega
      ·obtain rfl:j=p.cn:=by omega
       have fQ:Hid (∀ r,r < 16 -> (aA (X.take k) r++aZ (V.at' p.P.vec r))++aj (p.P.cloud.take p.cn) r=aA (X.take (k+1)) r):=fun r _=>by
        rw [Jn.out,zac,xg,aa,<- HL,List.take_length,List.append_assoc]
       go_wp2_with fail;go_roundw
       case rel=>exact ⟨k+1,F,by omega,by go_num,HI.congr fQ⟩
       case measure=>simp [intOf];omega
  ·obtain rfl:k=q:=by omega
   have l1:=wZ HI.s;have s1:=wY (F':=F) HI.z
   have HF:Hid (∀ r,r < 16 -> (F r).L=aA X r):=fun r hr=>by rw [HI.l r hr,<- HS.len,List.take_length]
   have HB:Hid (dD w.heap.size (w3.setRow w.heap.size (SA F)) F (aA X)):=by
    have hO:dj (w.heap.size+2) (w3.setRow w.heap.size (SA F)) F:=HI.o.kept (fun q hq fR=>setRow_other _ _ _ _ (fun e=>fR (by rw [e];exact HI.off _ (Or.inl (by omega)))));have ak:∀ r,r < 16 -> ∀ ad,(F r).ao=some ad -> w.heap.size+2 <= ad.block/\ad.block < (w3.setRow w.heap.size (SA F)).heap.size:=fun r hr ad e=>hO.lt hr (by unfold blk;rw [e];rfl);refine ⟨fun r hr=>hO.src (by have:=HI.h;simp [World.setRow];omega) hr ?_,HF.out,fun r hr ad e=>by have:=ak r hr ad e;omega,fun r hr ad e=>(ak r hr ad e).2⟩;have h1:=vE X r;have h2:=HI.o.len hr;have h3:=HF.out r hr;have h4:=HN.out;rw [h3] at h2;omega
   go_wp2_with fail;exact bodyPost_ret (v:=SAv F) (JM Tryz.results90 rfl HI.z.setRow) rfl ⟨F,rfl,HB.out,zh HI.b (Nat.le_refl _)⟩
end
section
open Go.RowKit
attribute [local go_sem ↓] zq zp vW vU kV kG
attribute [local go_sem] jf xt zI zi zR zz qq qp zk zM V.wm xV zaZ qD ky xf
theorem zhI (vo:Option Addr) (vn vc:Nat) (co:Option Addr) (cn cc:Nat):((PC pv0).setIfInBounds 0 (.slice vo vn vc)).setIfInBounds 1 (.slice co cn cc)=#[.slice vo vn vc,.slice co cn cc]:=rfl
attribute [local go_sem] zhI
structure im (w W:World) (F:Nat -> Sl) (f:Nat -> Int) (ao:Option Addr) (cap:Nat) (acc:List Sn):Prop where
 s:cL W w.heap.size F
 p:av W (w.heap.size+1) pv0
 v:V.Arr W (w.heap.size+1+1) 194 f
 o:fh w.heap.size (w.heap.size+3) w W ao cap acc
theorem im.on {w W W':World} {F:Nat -> Sl} {f:Nat -> Int} {ao:Option Addr} {cap:Nat} {acc:List Sn} (I:im w W F f ao cap acc) (hb:Below W.heap.size W W'):im w W' F f ao cap acc:=
 ⟨I.s.below hb,I.p.below hb,I.v.below hb,I.o.later hb⟩
theorem im.push {w W W':World} {F:Nat -> Sl} {f:Nat -> Int} {ao ao':Option Addr} {cap cap':Nat} {acc acc':List Sn} (I:im w W F f ao cap acc) (O:fh w.heap.size (w.heap.size+3) w W' ao' cap' acc')
  {g:Nat} (hk:∀ k,k < W.heap.size -> (Value.slice ao acc.length cap).ownBlock≠some k -> W'.heap[k]? = W.heap[k]? /\ g≠k):im w W' F f ao' cap' acc':=by
 have hB:=I.o.hB;have key:∀ k,k < w.heap.size+3 -> W'.heap[k]? = W.heap[k]?:=fun k ak=>(hk k (by omega) (fun e=>by have:=(I.o.own.lt k e).1;omega)).1;exact ⟨(key _ (by omega)).trans I.s,(key _ (by omega)).trans I.p,(key _ (by omega)).trans I.v,O⟩
theorem im.vset {w W:World} {F:Nat -> Sl} {f:Nat -> Int} {ao:Option Addr} {cap:Nat} {acc:List Sn} (I:im w W F f ao cap acc) (k:Nat) (z:Int):im w (W.setCell ⟨w.heap.size+1+1,k,none⟩ (.int .i64 z)) F (V.mz f k z) ao cap acc:=by
 have other:∀ q,q≠w.heap.size+1+1 -> (W.setCell ⟨w.heap.size+1+1,k,none⟩ (.int .i64 z)).heap[q]? = W.heap[q]?:=fun q hq=>by
  simp [World.setCell,Array.getElem?_modify,show ¬ w.heap.size+1+1=q by omega]
 refine ⟨(other _ (by omega)).trans I.s,(other _ (by omega)).trans I.p,I.v.set k z,⟨⟨I.o.own.1,?_⟩,V.qd I.o.below (by simp;omega),by have:=I.o.hB;simp [World.setCell];omega,I.o.hB0⟩⟩;rcases I.o.own.2 with h | ⟨g,cap2,cur,hv,dU,dx,r⟩
 ·exact Or.inl h
 ·exact Or.inr ⟨g,cap2,cur,hv,dU,(other g (by omega)).trans dx,r⟩
theorem im.congr {w W:World} {F:Nat -> Sl} {f f':Nat -> Int} {ao:Option Addr} {cap:Nat} {acc:List Sn} (I:im w W F f ao cap acc) (h:∀ r,r < 16 -> f r=f' r):im w W F f' ao cap acc:=⟨I.s,I.p,I.v.congr h,I.o⟩
def ir (N:Nat -> List Rn) (k:Nat):Nat -> Int:=fun r=>if r < k then au (N r) else 0
theorem zgn {L:List Rn} {k j:Nat} {x:Rn} (h:L.take (j+1)=L.take j++[x]):tag k (L.take (j+1))=tag k (L.take j)++[⟨(k:Int),x.lo,x.hi⟩]:=by rw [h];simp [tag]

theorem qV (F:Nat -> Sl) (w:World) (hF:∀ r,r < 16 -> aV w (F r).ao (F r).n (F r).cap (F r).L) :
  Calls Tryz.prog 102 #[SAv F] w fun e w'=>ct w w' e (af (fun r=>(F r).L)):=by
 have HF:=hide hF;clear hF;go_enter Tryz.func102,Tryz.ntmps102;go_wp2_with fail;go_loopw [4,10] (fun c i wr=>∃ (k:Nat) (N:Nat -> List Rn) (ao:Option Addr) (cap:Nat) (acc:List Sn),k <= 16/\c = .slice ao acc.length cap/\i = .int .i64 k/\Hid (im w wr F (ir N k) ao cap acc/\(∀ r,r < k -> aN (F r).L (N r))/\acc=aJ N k)) (fun _ i _=>16 - (intOf i).toNat)
 case atStart =>
  have b1:=ze w (.cells (SA F) 136);have b2:=ze (w.alloc (.cells (SA F) 136)) (.cells (PC pv0) 26);have b3:=ze ((w.alloc (.cells (SA F) 136)).alloc (.cells (PC pv0) 26)) (.cells (V.VC fun _=>0) 194);have p1:=zm (w.alloc (.cells (SA F) 136)) pv0;have v1:=V.za2 ((w.alloc (.cells (SA F) 136)).alloc (.cells (PC pv0) 26)) 194 (fun _=>0);simp only [World.size_alloc] at p1 v1;refine ⟨0,fun _=>[],none,0,[],Nat.zero_le _,rfl,rfl,⟨((jB w F).below b2).below b3,p1.below b3,v1.congr (fun r _=>by simp [ir]),fh.nil (b1.trans ((b2.trans (b3.mono b2.size)).mono b1.size)) (by simp) (by omega)⟩,fun r h=>by omega,rfl⟩
 case round =>
  obtain ⟨k,N,ao,cap,acc,hk,rfl,rfl,HI⟩:=hrel
  rename World=>w3
  by_cases ak:k < 16
  ·have c1:=HI.1.s.cell k ak;have tA:=hide ((HF.out k ak).below HI.1.o.below);obtain ⟨sa,sn,sc,hf⟩:∃ sa sn sc,(F k).ao=sa/\(F k).n=sn/\(F k).cap=sc:=⟨_,_,_,rfl,rfl,rfl⟩;rw [hf.1,hf.2.1,hf.2.2] at c1 tA;clear hf;go_wp2_with fail;refine (zgV sa sn sc (F k).L _ tA).mono ?_;rintro e w4 ⟨z,a1,n1,c1',L,rfl,S4,hL,b4,f4⟩;obtain ⟨X,hX,hz,J3⟩:=hL.norm;have HX:=hide hX;have HZ:=hide hz;have tB:=hide J3;have uX:=hide (HI.1.on b4);have FO:=hide b4.size;have HA:=hide HI.2;have uv:=hide S4;have dU:=S4.big;have Be:Hid (L.length=n1):=S4.len;have d1:=uX.v.cell k ak;have d2:=uX.v.frozen k;have BV:Hid (∀ ad,a1=some ad -> w3.heap.size <= ad.block):=f4;have Ny:=hide HI.1.o.hB;have Mo:Hid (∀ q,(Value.slice ao acc.length cap).ownBlock=some q -> q < w3.heap.size):=fun q h=>(HI.1.o.own.lt q h).2
   have MT:=hide hL.1;clear hX hz J3 hL S4 b4 f4 HI tA c1;go_wp2_with fail;have Jj:=hide ((uX.vset k z))
   have D4:Hid (aV (w4.setCell ⟨w.heap.size+1+1,k,none⟩ (.int .i64 z)) a1 n1 c1' L):=jD uv.out (fun ad h=>by
    have h1:=BV.out ad h;have h2:=Ny.out
    simp [World.setCell,Array.getElem?_modify,show ¬ w.heap.size+1+1=ad.block by omega])
   have DA:Hid (w3.heap.size <= (w4.setCell ⟨w.heap.size+1+1,k,none⟩ (.int .i64 z)).heap.size):=by
    have:=uX.o.hB
    show _ <= _
    simp only [World.setCell,Array.size_modify];exact FO.out
   generalize (w4.setCell ⟨w.heap.size+1+1,k,none⟩ (.int .i64 z))=w5 at Jj D4 DA ⊢;go_loopw [4,25] (fun c i wr=>∃ (j:Nat) (ao':Option Addr) (cap':Nat) (acc':List Sn),j <= n1/\c = .slice ao' acc'.length cap'/\i = .int .i64 j/\Hid (im w wr F (V.mz (ir N k) k z) ao' cap' acc'/\acc'=acc++tag k (L.take j)/\aV wr a1 n1 c1' L/\(∀ ad,a1=some ad -> (Value.slice ao' acc'.length cap').ownBlock≠some ad.block))) (fun _ i _=>n1 - (intOf i).toNat)
   case atStart =>
    exact ⟨0,ao,cap,acc,Nat.zero_le _,rfl,rfl,Jj.out,by simp [tag],D4.out,fun ad h e=>by have:=Mo.out _ e;have:=BV.out ad h;omega⟩
   case round =>
    obtain ⟨j,ao',cap',acc',hj,rfl,rfl,HJ⟩:=hrel
    rename World=>w6
    clear uX Jj D4 uv d1 d2;by_cases iw:j < n1
    ·obtain ⟨ad,rfl,A0⟩:=HJ.2.2.1.at j iw;have dF:=jn A0;obtain ⟨x,Hx⟩:∃ x,Hid (L.getD j rn0=x):=⟨_,rfl⟩;rw [Hx.out] at dF
     have KV:j < L.length:=by rw [Be.out];exact iw
     have HT:Hid (L.take (j+1)=L.take j++[x]):=by show _=_;rw [List.take_succ_eq_append_getElem KV,<- Hx.out];simp [List.getD,KV]
     obtain ⟨w7,cd,XB,b7,z7⟩:=made w6 x w6.heap.size rfl;have x0:=XB.at.c0;have x1:w7.cell? ⟨w6.heap.size,1,none⟩=some (.int .i64 x.hi):=XB.at.c1;have K3:=hide (HJ.1.on b7);have KM:=hide (HJ.2.2.1.below b7);have u7:=hide HJ.2.2.2;have HE:=hide HJ.2.1
     have fW:Hid (acc'.length < 5864062014805):=by
      have h1:=xU (N:=N) k (fun r hr=>(HA.1 r hr).1);have h2:=qT (Int.le_refl _) MT.out;have h3:=HA.2;have h4:=HJ.2.1
      show _ < _
      rw [h4,List.length_append,ke,h3,List.length_take];omega
     obtain ⟨m,Hm⟩:∃ m,Hid (acc'.length=m):=⟨_,rfl⟩;rw [Hm.out];have KG:=hide (World.block_lt_of_cell? _ _ (KM.cell ad rfl 0 (by omega)).c0);clear XB b7 z7 A0 HJ;go_wp2_with (at_builtin;refine K3.o.append ⟨(k:Int),x.lo,x.hi⟩ _ rfl fW.out rfl (.tmp 29) (.tmp 36) rfl m Hm.out rfl rfl ?_;intro g8 c8 w8 O8 h8);go_roundw
     case rel =>
      refine ⟨j+1,some ⟨g8,0,none⟩,c8,acc'++[⟨(k:Int),x.lo,x.hi⟩],by omega,by rw [List.length_append,Hm.out];rfl,by go_num,K3.push O8 h8,by rw [zgn HT.out,<- List.append_assoc,<- HE.out],?_,?_⟩
      ·exact jD KM.out (fun ad' h=>(h8 _ (by obtain rfl:=Option.some.inj h;have:=KG.out;rw [zs] at this;exact this) (u7.out ad' h)).1)
      ·intro ad' h e;have e':g8=ad'.block:=Option.some.inj e;exact (h8 _ (by obtain rfl:=Option.some.inj h;have:=KG.out;rw [zs] at this;exact this) (u7.out ad' h)).2 e'
     case measure=>simp [intOf];omega
    ·obtain rfl:j=n1:=by omega
     have rx:Hid (∀ r,r < k+1 -> aN (F r).L ((fun r=>if r=k then X else N r) r)):=fun r hr=>by
      dsimp only;by_cases e:r=k
      ·subst e;rw [if_pos rfl];exact HX.out
      ·rw [if_neg e];exact HA.1 r (by omega)
     have Bk:Hid (acc'=aJ (fun r=>if r=k then X else N r) (k+1)):=by
      show _=_
      have h:aJ (fun r=>if r=k then X else N r) k=aJ N k:=j0 k (fun r hr=>by simp;omega);rw [HJ.2.1,HA.2,aJ,h,<- Be.out,List.take_length,tB.out];simp
     have AW:Hid (∀ r,r < 16 -> V.mz (ir N k) k z r=ir (fun r=>if r=k then X else N r) (k+1) r):=fun r _=>by
      unfold V.mz ir;by_cases e:r=k
      ·subst e;simp [HZ.out]
      ·by_cases h:r < k
       ·simp [e,h,show r < k+1 by omega]
       ·simp [e,h,show ¬ r < k+1 by omega]
     have NP:=hide HJ.1;clear HJ;go_wp2_with fail;go_roundw
     case rel=>exact ⟨k+1,fun r=>if r=k then X else N r,ao',cap',acc',by omega,rfl,by go_num,NP.congr AW,rx.out,Bk.out⟩
     case measure=>simp [intOf];omega
  ·obtain rfl:k=16:=by omega
   have HV:Hid (V.Src w3 (some ⟨w.heap.size+1+1,0,none⟩) 16 16 ((List.range 16).map (ir N 16))):=⟨by simp,fun h=>(by cases h),fun ad h t ht=>by
    obtain rfl:=Option.some.inj h;rw [Addr.add_lit,Nat.zero_add,HI.1.v.cell t ht]
    simp [List.getD,ht]⟩
   have HE:Hid (V.aR (V.at' ((List.range 16).map (ir N 16)))=V.aR (fun r=>au (N r))):=xX (fun r hr=>by
    have hb:=jY (HI.2.1 r hr).1;unfold V.at' V.fE;rw [if_pos hr];simp [List.getD,hr,ir]
    omega)
   obtain ⟨m,Hm⟩:∃ m,Hid (acc.length=m):=⟨_,rfl⟩;rw [Hm.out];go_wp2_with fail;refine (V.wu _ _ _ _ _ HV).mono ?_;rintro e w5 ⟨vo,vn,vc,rfl,S5,b5,f5⟩;have I5:=HI.1.on b5;have nJ:=xU (N:=N) 16 (fun r hr=>(HI.2.1 r hr).1);rw [<- HI.2.2] at nJ;obtain ⟨S6,f6⟩:=I5.o.src (by omega);rw [Hm.out] at S6;rw [HE.out] at S5;obtain ⟨p',Ar⟩:∃ p':Pv,p'=⟨vo,vn,vc,ao,m,cap,⟨V.aR (fun r=>au (N r)),acc⟩⟩:=⟨_,rfl⟩
   have s1:(stP (.pointer (some ⟨w.heap.size+1,0,none⟩)) (.agg #[.slice vo vn vc,.slice ao m cap])).run Tryz.prog w5 = .ok () (w5.setRow (w.heap.size+1) (PC p')):=by
    have:=qM (p':=p') I5.p;rw [Ar] at this ⊢;exact this
   have HP:Hid (av (w5.setRow (w.heap.size+1) (PC p')) (w.heap.size+1) p'):=setRow_heap _ _ _ _ _ _ I5.p;have h3:=HI.1.o.hB
   have HQ:Hid (am (w5.setRow (w.heap.size+1) (PC p')) p'/\dA w.heap.size p'/\Below w.heap.size w (w5.setRow (w.heap.size+1) (PC p'))/\af (fun r=>(F r).L) p'.P):=by
    refine ⟨⟨?_,?_,?_⟩,⟨?_,?_⟩,zh I5.o.below (by omega),N,HI.2.1,?_⟩
    ·rw [Ar];exact S5.off (fun ad h=>setRow_other _ _ _ _ (fun e=>by have:=f5 ad h;omega))
    ·rw [Ar];exact S6.off (fun ad h=>setRow_other _ _ _ _ (fun e=>by have:=f6 ad h;omega))
    ·rw [Ar];have:=S5.1;rw [V.zV] at this;have u6:=V.vT (fun r=>au (N r));show vn <= _;omega
    ·rw [Ar];exact fun ad h=>by have:=f5 ad h;omega
    ·rw [Ar];exact fun ad h=>by have:=f6 ad h;omega
    ·rw [Ar];show (⟨_,acc⟩:Pst)=_;rw [HI.2.2];rfl
   clear S5 S6 f5 f6 nJ h3 I5 b5 Ar;go_wp2_with fail;exact bodyPost_ret (v:=PV p') (eR Tryz.results102 rfl HP) rfl ⟨p',rfl,HQ.out⟩
end
section
open Go.RowKit
attribute [local go_sem ↓] zq zp vW vU
attribute [local go_sem] jf xt zI zi qq zk
theorem qL (a:Pv):Array.foldl (fun cs x=>cs.setIfInBounds x.snd x.fst) #[(PC pv0)[0]!,(PC pv0)[1]!] (PC a).zipIdx 0 2=PC a:=rfl
attribute [local go_sem] qL
theorem kR (W:World) (a:Pv) (hS:am W a):fN (W.alloc (.cells (PC a) 26)) (some ⟨W.heap.size,0,none⟩) 1 [a]:=
 zc6 _ _ [a] (PC a) (by simp [pcs]) _ 1 rfl (heap_alloc_new W _) (fun p h=>by obtain rfl:=List.mem_singleton.1 h;exact hS.below (ze _ _))
theorem wL {W:World} {a:Pv} (hS:am W a):wt [a] <= 8796093022207:=by have h1:=hS.cloud.big;have h2:=hS.cloud.len;simp only [wt];omega
theorem xi (ao:Option Addr) (q cap:Nat) (X:List Pv) (w:World) (hS:fN w ao q X) (hN:wt X <= 8796093022207) (hq:q <= 8796093022207) :
  Calls Tryz.prog 56 #[.slice ao q cap] w fun e w'=>ct w w' e (af (aA X)):=by
 have HS:=hide hS;have HN:=hide hN;clear hS hN;have b0:=ze w (.cells (PC pv0) 26);have ie:=hide b0;have uW:=hide (zm w pv0);clear b0;go_enter Tryz.func56,Tryz.ntmps56;go_wp2_with fail;refine (xw ao q cap X _ (HS.below ie) HN.out hq).mono ?_;rintro e w1 ⟨F,rfl,⟨S1,hF,_,_⟩,b1⟩;have HF:=hide hF;have aM:=hide b1;have dg:=hide S1;clear b1 S1 hF;go_wp2_with fail;refine (qV F _ dg).mono ?_;rintro e w2 ⟨p,rfl,S2,n2,b2,c2⟩;obtain ⟨s1,e1,e2,e3,e4⟩:=qu (w:=w) ((uW.below aM).below b2) S2 (n2.mono (by have:=aM.size;simp at this;omega)) (ie.trans ((aM.trans (b2.mono aM.size)).mono ie.size)) (Nat.le_refl _);have df:=hide e1;have iT:Hid (ct w (w2.setRow w.heap.size (PC p)) (.returned (PV p)) (af (aA X))):=⟨p,rfl,e2,e3,e4,c2.congr HF⟩
 clear S2 n2 b2 c2 e1 e2 e3 e4;go_wp2_with fail;exact bodyPost_ret (v:=PV p) (eR Tryz.results56 rfl df) rfl iT.out
theorem jX (a:Pv) (w:World) (hS:am w a) :
  Calls Tryz.prog 116 #[PV a] w fun e w'=>ct w w' e (af (aa a.P)):=by
 have b0:=ze w (.cells (PC a) 26);have b1:=ze (w.alloc (.cells (PC a) 26)) (.cells (PC pv0) 26);have AM:=zm (w.alloc (.cells (PC a) 26)) pv0
 have l1:=zj ((zm w a).below b1).at
 rw [World.size_alloc] at AM;have aM:=hide (b0.trans (b1.mono b0.size));have HS:=hide (hS.below aM);have fZ:=hide AM;have HW:=hide (wL hS);clear hS b0 b1 AM;go_enter Tryz.func116,Tryz.ntmps116;go_wp2_with fail;have R:=kR _ a HS.out;have bl:=ze ((w.alloc (.cells (PC a) 26)).alloc (.cells (PC pv0) 26)) (.cells (PC a) 26);simp only [World.size_alloc] at R;refine (xw _ 1 1 [a] _ R HW.out (by omega)).mono ?_;rintro e w1 ⟨F,rfl,⟨S1,hF,_,_⟩,b2⟩;have HF:=hide hF;have cu:=hide (bl.trans (b2.mono bl.size));have dg:=hide S1;clear b2 S1 hF R bl;go_wp2_with fail;refine (qV F _ dg).mono ?_;rintro e w2 ⟨p,rfl,S2,n2,b2,c2⟩;obtain ⟨s1,e1,e2,e3,e4⟩:=qu (w:=w) ((fZ.below cu).below b2) S2 (n2.mono (by have:=cu.size;simp at this;omega)) (aM.trans ((cu.trans (b2.mono cu.size)).mono aM.size)) (by omega)
 have df:=hide e1;have iT:Hid (ct w (w2.setRow (w.heap.size+1) (PC p)) (.returned (PV p)) (af (aa a.P))):=⟨p,rfl,e2,e3,e4,c2.congr (fun r hr=>by rw [HF.out r hr,xg])⟩;clear S2 n2 b2 c2 e1 e2 e3 e4;go_wp2_with fail;exact bodyPost_ret (v:=PV p) (eR Tryz.results116 rfl df) rfl iT.out
def fw (N:Nat -> List Rn):Nat -> Int
 | 0=>0
 | k+1=>fw N k+sz (N k)
def gQ (G:Nat -> List Rn) (z:Int):Prop:=∃ N,(∀ r,r < 16 -> aN (G r) (N r))/\z=fw N 16
theorem zb2 {N:Nat -> List Rn}:∀ k,(∀ r,r < k -> form 1 (N r)) -> 0 <= fw N k/\fw N k <= k * 1000000000
 | 0,_=>by simp [fw]
 | k+1,h=>by
  have h1:=zb2 k (fun r hr=>h r (by omega));have h2:=zbZ (h k (by omega))
  have h3:sz (N k) <= 1000000000:=by
   rcases h2.2.1 with e | e
   ·rw [e];simp [sz]
   ·omega
  rw [fw]
  push_cast
  omega
theorem vC {N N':Nat -> List Rn}:∀ k,(∀ r,r < k -> N r=N' r) -> fw N k=fw N' k
 | 0,_=>rfl
 | k+1,h=>by rw [fw,fw,vC k (fun r hr=>h r (by omega)),h k (by omega)]
theorem gQ.unique {G G':Nat -> List Rn} {z z':Int} (h:gQ G z) (h':gQ G' z') (e:∀ r,r < 16 -> ∀ n,mem (G r) n↔mem (G' r) n):z=z':=by
 obtain ⟨N,hN,rfl⟩:=h;obtain ⟨N',Af,rfl⟩:=h';exact vC 16 fun r hr=>jO (Int.le_refl _) (hN r hr).1 (Af r hr).1 (fun n=>((hN r hr).2 n).trans ((e r hr n).trans ((Af r hr).2 n).symm))
theorem zgy (F:Nat -> Sl) (k:Nat) (hk:k < 16) (w:World):(Instr.index 136 (SAv F) (.int .i64 (k:Int))).run Tryz.prog w = .ok (.slice (F k).ao (F k).n (F k).cap) w:=by
 have h1:0 <= (k:Int)/\(k:Int) < 16:=by omega
 have h2:=zi5 F k hk
 have ex:(isAgg 134).run Tryz.prog w = .ok false w:=by
  unfold isAgg;rw [Sem.run_bind,run_underlying Tryz.underlying134 w];rfl
 simp [Instr.index,run_underlying Tryz.underlying136,SAv,asIntOf,Result.andThen,part,ex,h2,slv];omega
def ixA (x i:Value):Sem Value:=Instr.index 136 x i
theorem zh9 (x i:Value):Instr.index 136 x i=ixA x i:=rfl
attribute [local go_sem ↓] zh9
theorem vV (a:Pv) (w:World) (hS:am w a) :
  Calls Tryz.prog 49 #[PV a] w fun e w'=>∃ z,e = .returned (.int .i64 z)/\gQ (aa a.P) z/\Below w.heap.size w w':=by
 have b0:=ze w (.cells (PC a) 26)
 have l1:=zj (zm w a).at
 have aM:=hide b0;have HS:=hide (hS.below aM);have HW:=hide (wL hS);clear hS b0;go_enter Tryz.func49,Tryz.ntmps49;go_wp2_with fail;have R:=kR _ a HS.out;have bl:=ze (w.alloc (.cells (PC a) 26)) (.cells (PC a) 26);simp only [World.size_alloc] at R;refine (xw _ 1 1 [a] _ R HW.out (by omega)).mono ?_;rintro e w1 ⟨F,rfl,⟨S1,hF,_,_⟩,b2⟩;have HF:=hide hF;have cu:=hide (aM.trans ((bl.trans (b2.mono bl.size)).mono aM.size));have dg:=hide S1;clear b2 S1 hF R bl;go_wp2_with fail;go_loopw [3,9] (fun s i wr=>∃ (k:Nat) (N:Nat -> List Rn),k <= 16/\s = .int .i64 (fw N k)/\i = .int .i64 k/\Hid (∀ r,r < k -> aN (F r).L (N r))/\Hid (Below w1.heap.size w1 wr)) (fun _ i _=>16 - (intOf i).toNat)
 case atStart=>exact ⟨0,fun _=>[],Nat.zero_le _,rfl,rfl,fun r h=>by omega,Below.refl _ _⟩
 case round =>
  obtain ⟨k,N,hk,rfl,rfl,HN,HB⟩:=hrel
  rename World=>w3
  have FJ:=zb2 (N:=N) k (fun r hr=>(HN.out r hr).1);by_cases ak:k < 16
  ·have c1:(ixA (SAv F) (.int .i64 (k:Int))).run Tryz.prog w3=_:=zgy F k ak w3;have tA:=hide ((dg.out k ak).below HB);obtain ⟨sa,sn,sc,hf⟩:∃ sa sn sc,(F k).ao=sa/\(F k).n=sn/\(F k).cap=sc:=⟨_,_,_,rfl,rfl,rfl⟩;rw [hf.1,hf.2.1,hf.2.2] at c1 tA;clear hf;go_wp2_with fail;refine (zgu sa sn sc (F k).L _ tA).mono ?_;rintro e w4 ⟨z,rfl,hz,b4⟩;obtain ⟨R,hR,Ih⟩:=hz;have h2:=zbZ hR.1
   have h3:0 <= z/\z <= 1000000000:=by
    rw [Ih];refine ⟨h2.1,?_⟩;rcases h2.2.1 with e | e
    ·rw [e];simp [sz]
    ·omega
   have rx:Hid (∀ r,r < k+1 -> aN (F r).L ((fun r=>if r=k then R else N r) r)):=fun r hr=>by
    dsimp only;by_cases e:r=k
    ·subst e;rw [if_pos rfl];exact hR
    ·rw [if_neg e];exact HN.out r (by omega)
   have CP:Hid (fw N k+z=fw (fun r=>if r=k then R else N r) (k+1)):=by
    have h:fw (fun r=>if r=k then R else N r) k=fw N k:=vC k (fun r hr=>by simp;omega)
    show _=_
    rw [fw,h,Ih];simp
   have aI:=wTr HB b4;obtain ⟨y,Hy⟩:∃ y,Hid (fw N k=y):=⟨_,rfl⟩;rw [Hy.out] at FJ CP ⊢;clear hR Ih h2 b4;go_wp2_with fail;go_roundw
   case rel=>exact ⟨k+1,fun r=>if r=k then R else N r,by omega,by rw [<- CP.out],by go_num,rx.out,aI.out⟩
   case measure=>simp [intOf];omega
  ·obtain rfl:k=16:=by omega
   have HR:Hid (gQ (aa a.P) (fw N 16)/\Below w.heap.size w w3):=⟨⟨N,fun r hr=>by rw [<- xg,<- HF.out r hr];exact HN.out r hr,rfl⟩,cu.trans (HB.mono cu.size)⟩;go_wp2_with fail;go_ret;exact ⟨_,rfl,HR.out⟩
theorem gQ.zero {G:Nat -> List Rn} {z:Int} (h:gQ G z):z=0↔∀ r,r < 16 -> ∀ n,¬ mem (G r) n:=by
 obtain ⟨N,hN,rfl⟩:=h
 have key:∀ k,k <= 16 -> (fw N k=0↔∀ r,r < k -> N r=[]):=by
  intro k
  induction k with
  | zero=>intro _;exact ⟨fun _ r h=>by omega,fun _=>rfl⟩
  | succ k ih =>
   intro hk;have h1:=zb2 (N:=N) k (fun r hr=>(hN r (by omega)).1);have h2:=zbZ (hN k (by omega)).1;rw [fw];constructor
   ·intro h r hr;by_cases e:r=k
    ·subst e;exact h2.2.2 (by omega)
    ·exact (ih (by omega)).1 (by omega) r (by omega)
   ·intro h;rw [(ih (by omega)).2 (fun r hr=>h r (by omega)),h k (by omega)];rfl
 rw [key 16 (by omega)];constructor
 ·intro h r hr n hm;have:=((hN r hr).2 n).2 hm;rw [h r hr] at this;exact q9 n this
 ·intro h r hr;exact zd7 (Int.le_refl _) (hN r hr).1 (fun n hm=>h r hr n (((hN r hr).2 n).1 hm))
theorem jJ (a:Pv) (w:World) (hS:am w a) :
  Calls Tryz.prog 148 #[PV a] w fun e w'=>∃ b,e = .returned (.bool b)/\(b=true↔∀ r,r < 16 -> ∀ n,¬ mem (aa a.P r) n)/\Below w.heap.size w w':=by
 have b0:=ze w (.cells (PC a) 26)
 have l1:=zj (zm w a).at
 have aM:=hide b0;have HS:=hide (hS.below aM);clear hS b0;go_enter Tryz.func148,Tryz.ntmps148;go_wp2_with fail;refine (vV a _ HS).mono ?_;rintro e w2 ⟨z,rfl,hz,b2⟩
 have HZ:Hid ((z == 0)=true↔∀ r,r < 16 -> ∀ n,¬ mem (aa a.P r) n):=by rw [<- hz.zero];simp [Hid]
 have cu:=wTr aM b2;clear hz b2;go_wp2_with fail;go_ret;exact ⟨_,rfl,HZ.out,cu.out⟩
end
section
open Go.RowKit
attribute [local go_sem ↓] zq zp kW kH
attribute [local go_sem] xH qY zI zi qq zk qL
theorem zat (a:Pv) (w:World) (hS:am w a):Calls Tryz.prog 92 #[PV a] w fun e w'=>iq w w' e (aa a.P):=by
 have b1:=ze w (.cells (PC a) 26);have b2:=ze (w.alloc (.cells (PC a) 26)) (.cells (JA fun _=>si0) 141);have X2:=qG (w.alloc (.cells (PC a) 26)) 141 (fun _=>si0);rw [World.size_alloc] at X2;have dT:=hide ((zm w a).below b2);have eS:=hide X2;have al:=hide (b1.trans (b2.mono b1.size));have HS:=hide (hS.below al);clear b1 b2 X2 hS;obtain ⟨wk,aL⟩:∃ wk,(w.alloc (.cells (PC a) 26)).alloc (.cells (JA fun _=>si0) 141)=wk:=⟨_,rfl⟩
 have pZ:Hid (wk.heap.size=w.heap.size+1+1):=by show _=_;rw [<- aL];simp
 rw [aL] at dT eS al HS
 have l1:=zj dT.at
 have b3:=ze wk (.cells (PC a) 26);have HR:=hide (kR wk a HS);have NH:=hide (wL HS);have aw:=wTr al b3;have dh:=hide (eS.below b3);clear b3;go_enter Tryz.func92,Tryz.ntmps92;go_wp2_with fail;clear aL;refine (zdc _ 1 1 [a] _ HR.out NH.out (by omega)).mono ?_;rintro e w2 ⟨T,N,rfl,hT,b4⟩;have eE:=dh.below b4;have cd:=zae (F':=T) eE;have iA:=hide (aS.setRow (F':=T) eE)
 have fq:Hid (iq w (w2.setRow (w.heap.size+1) (JA T)) (.returned (JAv T)) (aa a.P)):=by
  refine ⟨T,N,rfl,fun r hr=>?_,zh (aw.trans (b4.mono aw.size)) (by omega)⟩;obtain ⟨h1,h2,h3⟩:=hT r hr;rw [xg] at h3;simp only [World.size_alloc] at h2;have tQ:=pZ.out;exact ⟨kr h1 (fun ad h=>setRow_other _ _ _ _ (fun e=>by have:=h2 ad h;omega)),fun ad h=>by have:=h2 ad h;omega,h3⟩
 clear hT b4 eE l1;go_wp2_with fail;exact bodyPost_ret (v:=JAv T) (Ct Tryz.results92 rfl iA) rfl fq.out
theorem zdD {G N:Nat -> List Rn} (h:∀ r,r < 16 -> aN (G r) (N r)) {P:Pst} (hP:P=dW N):af G P:=⟨N,h,hP⟩
theorem jE (a:Pv) (w:World) (hS:am w a):Calls Tryz.prog 93 #[PV a] w fun e w'=>ct w w' e (af (aa a.P)):=by
 have b1:=ze w (.cells (PC a) 26);have b2:=ze (w.alloc (.cells (PC a) 26)) (.cells (PC pv0) 26);have X2:=zm (w.alloc (.cells (PC a) 26)) pv0;rw [World.size_alloc] at X2;have dT:=hide ((zm w a).below b2);have eS:=hide X2;have al:=hide (b1.trans (b2.mono b1.size));have HS:=hide (hS.below al);clear b1 b2 X2 hS;obtain ⟨wk,aL⟩:∃ wk,(w.alloc (.cells (PC a) 26)).alloc (.cells (PC pv0) 26)=wk:=⟨_,rfl⟩
 have pZ:Hid (wk.heap.size=w.heap.size+1+1):=by show _=_;rw [<- aL];simp
 rw [aL] at dT eS al HS
 have l1:=zj dT.at
 go_enter Tryz.func93,Tryz.ntmps93;go_wp2_with fail;clear aL;refine (zat a _ HS).mono ?_;rintro e w2 ⟨T,N,rfl,hT,b4⟩;have HT:=hide hT;have aI:=hide b4;have eE:=hide (eS.below b4);clear hT b4 l1;go_wp2_with fail;refine (ks T N _ (fun r hr=>⟨(HT.out r hr).1,(HT.out r hr).2.2.1⟩)).mono ?_;rintro e w3 ⟨p,rfl,S3,n3,b5,c5⟩;have tQ:=pZ.out;have dE:=aI.size;obtain ⟨e1,e2,e3,e4,e5⟩:=qu (w:=w) (eE.below b5) S3 (n3.mono (by omega)) (al.trans ((aI.mono al.size).trans (b5.mono (Nat.le_trans al.size dE)))) (by omega);have iA:=hide e2;have fq:Hid (ct w _ (.returned (PV p)) (af (aa a.P))):=⟨p,rfl,e3,e4,e5,zdD (fun r hr=>(HT.out r hr).2.2) c5⟩;clear S3 n3 b5 c5 e2 e3 e4 e5 tQ dE;go_wp2_with fail;exact bodyPost_ret (v:=PV p) (eR Tryz.results93 rfl iA) rfl fq.out
theorem zcg (ao:Option Addr) (q cap:Nat) (X:List Pv) (w:World) (hS:fN w ao q X) (hN:wt X <= 8796093022207) (hq:q <= 8796093022207):Calls Tryz.prog 117 #[.slice ao q cap] w fun e w'=>ct w w' e (af (aA X)):=by
 have b1:=ze w (.cells (PC pv0) 26);have eS:=hide (zm w pv0);have al:=hide b1;have HS:=hide (hS.below b1);clear b1 hS;obtain ⟨wk,aL⟩:∃ wk,w.alloc (.cells (PC pv0) 26)=wk:=⟨_,rfl⟩
 have pZ:Hid (wk.heap.size=w.heap.size+1):=by show _=_;rw [<- aL];simp
 rw [aL] at eS al HS;go_enter Tryz.func117,Tryz.ntmps117;go_wp2_with fail;clear aL;refine (zdc ao q cap X _ HS.out hN hq).mono ?_;rintro e w2 ⟨T,N,rfl,hT,b4⟩;have HT:=hide hT;have aI:=hide b4;have eE:=hide (eS.below b4);clear hT b4;go_wp2_with fail;refine (ks T N _ (fun r hr=>⟨(HT.out r hr).1,(HT.out r hr).2.2.1⟩)).mono ?_;rintro e w3 ⟨p,rfl,S3,n3,b5,c5⟩;have tQ:=pZ.out;have dE:=aI.size;obtain ⟨e1,e2,e3,e4,e5⟩:=qu (w:=w) (eE.below b5) S3 (n3.mono (by omega)) (al.trans ((aI.mono al.size).trans (b5.mono (Nat.le_trans al.size dE)))) (by omega);have iA:=hide e2;have fq:Hid (ct w _ (.returned (PV p)) (af (aA X))):=⟨p,rfl,e3,e4,e5,zdD (fun r hr=>(HT.out r hr).2.2) c5⟩;clear S3 n3 b5 c5 e2 e3 e4 e5 tQ dE;go_wp2_with fail;exact bodyPost_ret (v:=PV p) (eR Tryz.results117 rfl iA) rfl fq.out
end
end Go.Proofs.YtjffpimfngdggaaGreat
