/- PSo PCa -/
import Derived.Test.YtjffpimfngdggaaGreatTk
import Derived.Test.YtjffpimfngdggaaGreatFs03
import Derived.Deep.RegionHeldLaw
import Derived.Test.YtjffpimfngdggaaGreatFs06
set_option maxRecDepth 100000
set_option maxHeartbeats 4000000
namespace Go.Proofs.YtjffpimfngdggaaGreat
section
open Go.RowKit
attribute [local go_sem ↓] zr zq vU vS ji jG
attribute [local go_sem] jb xt zE zi jj qJ qq kw zk xw
theorem zM (r:Int) (w:World):Calls Tryz.prog 108 #[.int .i64 r] w fun e w'=>e = .returned (.bool (V.isR r))/\w'=w:=by
 go_enter Tryz.func108,Tryz.ntmps108;by_cases h0:0 <= r
 ·have HR:Hid (V.isR r=decide (r < 16)):=by show _=_;unfold V.isR;rw [decide_eq_true h0,Bool.true_and]
  go_wp2;go_ret;exact ⟨zt HR.out.symm,rfl⟩
 ·have HR:Hid (V.isR r=false):=by show _=_;unfold V.isR;rw [decide_eq_false h0,Bool.false_and]
  go_wp2;go_ret;exact ⟨zt HR.out.symm,rfl⟩

theorem xx (ao:Option Addr) (q cap:Nat) (X:List Pv) (w:World) (hS:PRow w ao q X) (hN:wt X <= 8796093022207) (hq:q <= 8796093022207) :
  Calls Tryz.prog 90 #[.slice ao q cap] w fun e w'=>GivesA w w' e (runsOf X):=by
 have HS:=hide hS;have HN:=hide hN;clear hS hN;go_enter Tryz.func90,Tryz.ntmps90;go_wp2_with fail;go_loopw [12] (fun i wr=>∃ (k:Nat) (F:Nat -> Sl),k <= q/\i = .int .i64 k/\Hid (SInv w wr F (runsOf (X.take k)))) (fun i _=>q - (intOf i).toNat)
 case atStart =>
  refine ⟨0,fun _=>sl0,Nat.zero_le _,rfl,⟨(jw w _).below (ze _ _),?_,OwnA.nil _ _,fun r _=>rfl,((Below.refl _ _).alloc (Nat.le_refl _) _).alloc (by simp) _,by simp⟩⟩;have:=jw (w.alloc (.cells (SA fun _=>sl0) 136)) (fun _=>sl0);rw [World.size_alloc] at this;exact this
 case round =>
  obtain ⟨k,F,hk,rfl,HI⟩:=hrel
  rename World=>w3
  by_cases hlt:k < q
  ·obtain ⟨ad,p,rfl,hp,A0,_⟩:=(HS.out.below HI.out.b).at k hlt;have HSP:=hide (HS.out.src p (List.mem_of_getElem? hp));have hld:=zj A0;obtain ⟨w4,hst,PB,b4,z4⟩:=madeP w3 p w3.heap.size rfl;have HW:=hide (ziK hp);have HTK:=hide (wP hp);have HI4:=hide (HI.out.on b4);have HPB:=hide PB;have HOF:=hide (HI.out.off w3.heap.size (Or.inr (Nat.le_refl _)));have HLT:=hide HI.out.h;clear A0 PB b4 z4 hp;go_wp2_with fail;go_loopw [16] (fun i wr=>∃ (j:Nat) (F:Nat -> Sl),j <= 16/\i = .int .i64 j/\Hid (SInv w wr F (fun r=>runsOf (X.take k) r++(if r < j then vecPart (V.at' p.P.vec r) else [])))/\Hid (wr.heap[w3.heap.size]? = some (.cells (PC p) 26 (0,0))/\Off F w3.heap.size)) (fun i _=>16 - (intOf i).toNat)
   case atStart=>exact ⟨0,F,Nat.zero_le _,rfl,HI4.out.congr (fun r _=>by simp),HPB.out,HOF.out⟩
   case round =>
    obtain ⟨j,F,hj,rfl,HI,HPO⟩:=hrel
    rename World=>w5
    clear HI4 HPB HOF;have PB:PBox w5 w3.heap.size p:=HPO.out.1;obtain ⟨n0,n1⟩:=PB.nums;have HSP5:=hide (HSP.out.below HI.out.b);have HW2:=HW.out;have HN2:=HN.out;by_cases hjl:j < 16
    ·have HAT:Hid (V.atI p.P.vec j=V.at' p.P.vec j):=by show _=_;unfold V.atI;rw [if_pos (by simp [V.isR];omega),Int.toNat_natCast]
     obtain ⟨z,Hz⟩:∃ z,Hid (V.at' p.P.vec j=z):=⟨_,rfl⟩;rw [Hz.out] at HAT;by_cases hz:0 < z
     ·have hln:=HI.out.len hjl;have hle:=vB (X.take k) j;have HNX:=hide (fun r (_:r < 16)=>zfS (A:=runsOf (X.take k)) (f:=V.at' p.P.vec) Hz.out hz r);simp only [Nat.lt_irrefl,if_false,List.append_nil] at hln
      have HLN:Hid ((F j).n < 8796093022207):=by show _ < _;omega
      have c1:=HI.out.s.cell j hjl;obtain ⟨sa,sn,sc,hf⟩:∃ sa sn sc,(F j).ao=sa/\(F j).n=sn/\(F j).cap=sc:=⟨_,_,_,rfl,rfl,rfl⟩;rw [hf.1,hf.2.1,hf.2.2] at c1;have HF:=hide hf;clear hf hln hle HW2 HN2;go_wp2_with (first | (go_at_call 109;refine (V.xi _ _ _ p.P.vec j _ HSP5.out.vec).mono ?_;rintro e w' ⟨rfl,rfl⟩;rw [HAT.out]) | (at_builtin;refine HI.out.o.append HI.out.h j hjl ⟨1,z⟩ _ rfl HLN.out rfl (.tmp 28) (.tmp 31) rfl sa sn sc HF.out rfl rfl ?_;intro g6 c6 w6 O6 h2 h3 h4;have d1:=(HI.out.mid h2).cell j hjl;have d2:=(HI.out.mid h2).frozen j;have HP:=hide (HI.out.push j hjl ⟨1,z⟩ sn c6 g6 O6 h2 h3 h4 _ rfl);have HK:=hide (kX (B:=w.heap.size+1) (k:=j) (v:=.slice (some ⟨g6,0,none⟩) (sn+1) c6) h2 PB.lt HPO.out.2 (by have:=HLT.out;omega));clear O6 h2 h3 h4));go_roundw
      case rel=>exact ⟨j+1,_,by omega,by go_num,HP.out.congr HNX.out,HK.out.1.trans PB,HK.out.2⟩
      case measure=>simp [intOf];omega
     ·have HNX:=hide (fun r (_:r < 16)=>zfT (A:=runsOf (X.take k)) (f:=V.at' p.P.vec) Hz.out hz r);go_wp2_with (go_at_call 109;refine (V.xi _ _ _ p.P.vec j _ HSP5.out.vec).mono ?_;rintro e w' ⟨rfl,rfl⟩;rw [HAT.out]);go_roundw
      case rel=>exact ⟨j+1,F,by omega,by go_num,HI.out.congr HNX.out,HPO⟩
      case measure=>simp [intOf];omega
    ·obtain rfl:j=16:=by omega
     have HL:=HSP5.out.cloud.len;have hbg:=HSP5.out.cloud.big;have HI':=hide (HI.out.congr (G':=fun r=>(runsOf (X.take k) r++vecPart (V.at' p.P.vec r))++cloudPart (p.P.cloud.take 0) r) (fun r hr=>by simp [hr,cloudPart]));clear HW2 HN2;obtain ⟨co,Hco⟩:∃ co,Hid (p.co=co):=⟨_,rfl⟩;have HSC:=hide HSP.out.cloud;rw [Hco.out] at n1 HSC;rw [show ((16:Nat):Int)=16 from rfl];go_wp2_with fail;go_loopw [38] (fun i wr=>∃ (j:Nat) (F:Nat -> Sl),j <= p.cn/\i = .int .i64 j/\Hid (SInv w wr F (fun r=>(runsOf (X.take k) r++vecPart (V.at' p.P.vec r))++cloudPart (p.P.cloud.take j) r))) (fun i _=>p.cn - (intOf i).toNat)
     case atStart=>exact ⟨0,F,Nat.zero_le _,rfl,HI'⟩
     case round =>
      obtain ⟨j,F,hj,rfl,HI⟩:=hrel
      rename World=>w7
      clear HI' HPO PB n0 n1 HSP5 HLT;by_cases hjl:j < p.cn
      ·obtain ⟨ca,rfl,A1⟩:=(HSC.out.below HI.out.b).at j hjl;obtain ⟨c,Hc⟩:∃ c,Hid (p.P.cloud.getD j sn0=c):=⟨_,rfl⟩;rw [Hc.out] at A1
       have hjc:j < p.P.cloud.length:=by rw [HL];exact hjl
       have HTC:Hid (p.P.cloud.take (j+1)=p.P.cloud.take j++[c]):=by show _=_;rw [List.take_succ_eq_append_getElem hjc,<- Hc.out];simp [List.getD,hjc]
       have hld2:=ql A1;obtain ⟨w8,hst2,SB,b8,z8⟩:=madeS w7 c w7.heap.size rfl;have HI8:=hide (HI.out.on b8);have HOC:=hide (HI.out.off w7.heap.size (Or.inr (Nat.le_refl _)))
       obtain ⟨m0,m1,m2⟩:=SB.at
       have HSB:=hide SB;have HLT7:=hide HI.out.h;clear b8 z8 A1 SB;obtain ⟨x,Hx⟩:∃ x,Hid (V.isR c.rep=x):=⟨_,rfl⟩
       cases x with
       | false =>
        have HNX:=hide (fun r (hr:r < 16)=>vN (A:=fun r=>runsOf (X.take k) r++vecPart (V.at' p.P.vec r)) (L:=p.P.cloud.take j) Hx.out r hr);rw [<- HTC.out] at HNX;go_wp2_with (go_at_call 108;refine (zM c.rep _).mono ?_;rintro e w' ⟨rfl,rfl⟩;rw [Hx.out]);go_roundw
        case rel=>exact ⟨j+1,F,by omega,by go_num,HI8.out.congr HNX.out⟩
        case measure=>simp [intOf];omega
       | true =>
        have hr16:0 <= c.rep/\c.rep < 16:=by have:=Hx.out;unfold V.isR at this;simpa using this
        obtain ⟨y,Hy⟩:∃ y:Nat,Hid (c.rep=(y:Int)):=⟨c.rep.toNat,by show _=_;omega⟩
        have hy:y < 16:=by have:=Hy.out;omega
        have HNX:=hide (fun r (_:r < 16)=>bf (A:=fun r=>runsOf (X.take k) r++vecPart (V.at' p.P.vec r)) (L:=p.P.cloud.take j) Hy.out r);rw [<- HTC.out] at HNX
        have HLN:Hid ((F y).n < 8796093022207):=by
         have h1:=HI.out.len hy;have h2:=vB (X.take k) y;have h3:=wN (V.at' p.P.vec y);have h4:=xP (p.P.cloud.take j) y;have h5:=HW.out;have h6:=HN.out;simp only [List.length_append,List.length_take] at h1 h4
         show _ < _
         omega
        rw [Hy.out] at m0;have c1:=HI8.out.s.cell y hy;obtain ⟨sa,sn,sc,hf⟩:∃ sa sn sc,(F y).ao=sa/\(F y).n=sn/\(F y).cap=sc:=⟨_,_,_,rfl,rfl,rfl⟩;rw [hf.1,hf.2.1,hf.2.2] at c1;have HF:=hide hf
        have y0:(0:Int) <= (y:Int):=by omega
        have y1:(y:Int) < 16:=by omega
        have HSW:Hid (∀ W:World,W.heap[w7.heap.size]? = w8.heap[w7.heap.size]? -> W.cell? ⟨w7.heap.size,0,none⟩=some (.int .i64 (y:Int))/\W.cell? ⟨w7.heap.size,1,none⟩=some (.int .i64 c.lo)/\W.cell? ⟨w7.heap.size,2,none⟩=some (.int .i64 c.hi)):=fun W e1 =>
         ⟨(World.cell?_of_block e1).trans m0,(World.cell?_of_block e1).trans m1,(World.cell?_of_block e1).trans m2⟩
        have a1:=((ze w8 (.cells #[.int .i64 c.lo,.int .i64 c.hi] 182)).cell (World.block_lt_of_cell? _ _ c1)).trans c1;have HSB2:=hide (World.block_lt_of_cell? _ _ c1);clear hf hr16;go_wp2_with (go_at_call 108;refine (zM _ _).mono ?_;rintro e w' ⟨rfl,rfl⟩;rw [<- Hy.out,Hx.out]);refine wp_region_held_drew (S:=fun W=>W.cell? ⟨w7.heap.size,0,none⟩=some (.int .i64 (y:Int))/\W.cell? ⟨w7.heap.size,1,none⟩=some (.int .i64 c.lo)/\W.cell? ⟨w7.heap.size,2,none⟩=some (.int .i64 c.hi)) (by kernel_rfl) (HSW.out _ rfl) (fun hHeld=>?_);refine wU 0 ?_;refine wU 1 ?_;refine wU 2 ?_;refine wU 3 ?_;refine wU 4 ?_;refine wU 6 ?_;refine wU 7 ?_;refine wU 8 ?_;refine wU 9 ?_;refine wU 10 ?_;refine wpAnyH_ready (rs:=[5,11]) (by kernel_rfl) (by simp) ?_;refine AllReadyH.cons rfl (fun K hK=>?_) ?_
        ·go_simp;refine hK.out _ _ (HSW.out _ rfl) (fun hHeld=>?_);clear hK K;refine wpAnyH_ready (rs:=[11]) (by kernel_rfl) (by simp) (.cons rfl (fun K hK=>?_) .nil);go_simp;refine hK.out _ _ (HSW.out _ (Below.heap_alloc _ _ _ HSB.out.lt)) (fun hHeld=>?_);clear hK K;refine wpAnyH_ready (rs:=[12]) (by kernel_rfl) (by simp) (.cons rfl (fun K hK=>?_) .nil);refine HI8.out.o.step HI8.out.h y hy ⟨c.lo,c.hi⟩ _ (by rfl) HLN.out (by rfl) (.tmp 50) (.tmp 56) (by rfl) sa sn sc HF.out (by rfl) _ (by rfl) (by rfl) ?_;intro g6 c6 w6 O6 h2 h3 h4;have d1:=(HI8.out.mid h2).cell y hy;have d2:=(HI8.out.mid h2).frozen y;have HP:=hide (HI8.out.push y hy ⟨c.lo,c.hi⟩ sn c6 g6 O6 h2 h3 h4 _ rfl);have HK2:=hide (kX (B:=w.heap.size+1) (k:=y) (v:=.slice (some ⟨g6,0,none⟩) (sn+1) c6) h2 HSB.out.lt HOC.out (by have:=HLT7.out;omega)).1;refine hK.out _ _ (HSW.out _ (h2 _ HSB.out.lt HOC.out).1) (fun hHeld=>?_)
         clear hK K;refine wU 13 ?_;refine wpAnyH_ready (rs:=[14]) (by kernel_rfl) (by simp) (.cons rfl (fun K hK=>?_) .nil);go_simp;refine hK.out _ _ (HSW.out _ HK2.out) (fun hHeld=>?_);clear hK K;refine wpAnyH_done (by kernel_rfl) ?_ _;clear hHeld O6 h2 h3 h4;go_wp2_with fail;go_roundw
         case rel=>exact ⟨j+1,_,by omega,by go_num,HP.out.congr HNX.out⟩
         case measure=>simp [intOf];omega
        ·refine AllReadyH.cons rfl (fun K hK=>?_) ?_;rotate_left
         ·exact AllReadyH.nil
         go_simp;refine hK.out _ _ (HSW.out _ (Below.heap_alloc _ _ _ HSB.out.lt)) (fun hHeld=>?_);clear hK K;refine wpAnyH_ready (rs:=[5]) (by kernel_rfl) (by simp) (.cons rfl (fun K hK=>?_) .nil);go_simp;refine hK.out _ _ (HSW.out _ (Below.heap_alloc _ _ _ HSB.out.lt)) (fun hHeld=>?_);clear hK K;refine wpAnyH_ready (rs:=[12]) (by kernel_rfl) (by simp) (.cons rfl (fun K hK=>?_) .nil);refine HI8.out.o.step HI8.out.h y hy ⟨c.lo,c.hi⟩ _ (by rfl) HLN.out (by rfl) (.tmp 50) (.tmp 56) (by rfl) sa sn sc HF.out (by rfl) _ (by rfl) (by rfl) ?_;intro g6 c6 w6 O6 h2 h3 h4;have d1:=(HI8.out.mid h2).cell y hy;have d2:=(HI8.out.mid h2).frozen y;have HP:=hide (HI8.out.push y hy ⟨c.lo,c.hi⟩ sn c6 g6 O6 h2 h3 h4 _ rfl);have HK2:=hide (kX (B:=w.heap.size+1) (k:=y) (v:=.slice (some ⟨g6,0,none⟩) (sn+1) c6) h2 HSB.out.lt HOC.out (by have:=HLT7.out;omega)).1
         refine hK.out _ _ (HSW.out _ (h2 _ HSB.out.lt HOC.out).1) (fun hHeld=>?_);clear hK K;refine wU 13 ?_;refine wpAnyH_ready (rs:=[14]) (by kernel_rfl) (by simp) (.cons rfl (fun K hK=>?_) .nil);go_simp;refine hK.out _ _ (HSW.out _ HK2.out) (fun hHeld=>?_);clear hK K;refine wpAnyH_done (by kernel_rfl) ?_ _;clear hHeld O6 h2 h3 h4;go_wp2_with fail;go_roundw
         case rel=>exact ⟨j+1,_,by omega,by go_num,HP.out.congr HNX.out⟩
         case measure=>simp [intOf];omega
      ·obtain rfl:j=p.cn:=by omega
       have HNX:Hid (∀ r,r < 16 -> (runsOf (X.take k) r++vecPart (V.at' p.P.vec r))++cloudPart (p.P.cloud.take p.cn) r=runsOf (X.take (k+1)) r):=fun r _=>by
        rw [HTK.out,bJ,xf,runsAt,<- HL,List.take_length,List.append_assoc]
       go_wp2_with fail;go_roundw
       case rel=>exact ⟨k+1,F,by omega,by go_num,HI.out.congr HNX.out⟩
       case measure=>simp [intOf];omega
  ·obtain rfl:k=q:=by omega
   have l1:=wX HI.out.s;have s1:=wW (F':=F) HI.out.z
   have HF:Hid (∀ r,r < 16 -> (F r).L=runsOf X r):=fun r hr=>by rw [HI.out.l r hr,<- HS.out.len,List.take_length]
   have HB:Hid (RowsIn w.heap.size (w3.setRow w.heap.size (SA F)) F (runsOf X)):=by
    have hO:OwnA (w.heap.size+2) (w3.setRow w.heap.size (SA F)) F:=HI.out.o.kept (fun q hq hno=>setRow_other _ _ _ _ (fun e=>hno (by rw [e];exact HI.out.off _ (Or.inl (by omega)))));have hlt:∀ r,r < 16 -> ∀ ad,(F r).ao=some ad -> w.heap.size+2 <= ad.block/\ad.block < (w3.setRow w.heap.size (SA F)).heap.size:=fun r hr ad e=>hO.lt hr (by unfold blk;rw [e];rfl);refine ⟨fun r hr=>hO.src (by have:=HI.out.h;simp [World.setRow];omega) hr ?_,HF.out,fun r hr ad e=>by have:=hlt r hr ad e;omega,fun r hr ad e=>(hlt r hr ad e).2⟩;have h1:=vB X r;have h2:=HI.out.o.len hr;have h3:=HF.out r hr;have h4:=HN.out;rw [h3] at h2;omega
   go_wp2_with fail;exact bodyPost_ret (v:=SAv F) (resA Tryz.results90 rfl HI.out.z.setRow) rfl ⟨F,rfl,HB.out,zh HI.out.b (Nat.le_refl _)⟩
end
section
open Go.RowKit
attribute [local go_sem ↓] zr zq vU vS kU kE
attribute [local go_sem] jb xt zE zi zW zF qq qp zk zQ V.wm jj zaI qJ kw xw
theorem zhg (vo:Option Addr) (vn vc:Nat) (co:Option Addr) (cn cc:Nat):((PC pv0).setIfInBounds 0 (.slice vo vn vc)).setIfInBounds 1 (.slice co cn cc)=#[.slice vo vn vc,.slice co cn cc]:=rfl
attribute [local go_sem] zhg
structure CInv (w W:World) (F:Nat -> Sl) (f:Nat -> Int) (ao:Option Addr) (cap:Nat) (acc:List Sn):Prop where
 s:Sets W w.heap.size F
 p:PBox W (w.heap.size+1) pv0
 v:V.Arr W (w.heap.size+1+1) 194 f
 o:OwnS w.heap.size (w.heap.size+3) w W ao cap acc
theorem CInv.on {w W W':World} {F:Nat -> Sl} {f:Nat -> Int} {ao:Option Addr} {cap:Nat} {acc:List Sn} (I:CInv w W F f ao cap acc) (hb:Below W.heap.size W W'):CInv w W' F f ao cap acc:=
 ⟨I.s.below hb,I.p.below hb,I.v.below hb,I.o.later hb⟩
theorem CInv.push {w W W':World} {F:Nat -> Sl} {f:Nat -> Int} {ao ao':Option Addr} {cap cap':Nat} {acc acc':List Sn} (I:CInv w W F f ao cap acc) (O:OwnS w.heap.size (w.heap.size+3) w W' ao' cap' acc')
  {g:Nat} (hk:∀ k,k < W.heap.size -> (Value.slice ao acc.length cap).ownBlock≠some k -> W'.heap[k]? = W.heap[k]? /\ g≠k):CInv w W' F f ao' cap' acc':=by
 have hB:=I.o.hB;have key:∀ k,k < w.heap.size+3 -> W'.heap[k]? = W.heap[k]?:=fun k hlt=>(hk k (by omega) (fun e=>by have:=(I.o.own.lt k e).1;omega)).1;exact ⟨(key _ (by omega)).trans I.s,(key _ (by omega)).trans I.p,(key _ (by omega)).trans I.v,O⟩
theorem CInv.vset {w W:World} {F:Nat -> Sl} {f:Nat -> Int} {ao:Option Addr} {cap:Nat} {acc:List Sn} (I:CInv w W F f ao cap acc) (k:Nat) (z:Int):CInv w (W.setCell ⟨w.heap.size+1+1,k,none⟩ (.int .i64 z)) F (V.fset f k z) ao cap acc:=by
 have other:∀ q,q≠w.heap.size+1+1 -> (W.setCell ⟨w.heap.size+1+1,k,none⟩ (.int .i64 z)).heap[q]? = W.heap[q]?:=fun q hq=>by
  simp [World.setCell,Array.getElem?_modify,show ¬ w.heap.size+1+1=q by omega]
 refine ⟨(other _ (by omega)).trans I.s,(other _ (by omega)).trans I.p,I.v.set k z,⟨⟨I.o.own.1,?_⟩,V.zV I.o.below (by simp;omega),by have:=I.o.hB;simp [World.setCell];omega,I.o.hB0⟩⟩;rcases I.o.own.2 with h | ⟨g,cap2,cur,hv,hbg,hgg,r⟩
 ·exact Or.inl h
 ·exact Or.inr ⟨g,cap2,cur,hv,hbg,(other g (by omega)).trans hgg,r⟩
theorem CInv.congr {w W:World} {F:Nat -> Sl} {f f':Nat -> Int} {ao:Option Addr} {cap:Nat} {acc:List Sn} (I:CInv w W F f ao cap acc) (h:∀ r,r < 16 -> f r=f' r):CInv w W F f' ao cap acc:=⟨I.s,I.p,I.v.congr h,I.o⟩
def leads (N:Nat -> List Rn) (k:Nat):Nat -> Int:=fun r=>if r < k then leadOf (N r) else 0
theorem zfV {L:List Rn} {k j:Nat} {x:Rn} (h:L.take (j+1)=L.take j++[x]):tag k (L.take (j+1))=tag k (L.take j)++[⟨(k:Int),x.lo,x.hi⟩]:=by rw [h];simp [tag]

theorem qU (F:Nat -> Sl) (w:World) (hF:∀ r,r < 16 -> RSrc w (F r).ao (F r).n (F r).cap (F r).L) :
  Calls Tryz.prog 102 #[SAv F] w fun e w'=>GivesP w w' e (CanonOf (fun r=>(F r).L)):=by
 have HF:=hide hF;clear hF;go_enter Tryz.func102,Tryz.ntmps102;go_wp2_with fail;go_loopw [4,10] (fun c i wr=>∃ (k:Nat) (N:Nat -> List Rn) (ao:Option Addr) (cap:Nat) (acc:List Sn),k <= 16/\c = .slice ao acc.length cap/\i = .int .i64 k/\Hid (CInv w wr F (leads N k) ao cap acc/\(∀ r,r < k -> NormOf (F r).L (N r))/\acc=cloudN N k)) (fun _ i _=>16 - (intOf i).toNat)
 case atStart =>
  have b1:=ze w (.cells (SA F) 136);have b2:=ze (w.alloc (.cells (SA F) 136)) (.cells (PC pv0) 26);have b3:=ze ((w.alloc (.cells (SA F) 136)).alloc (.cells (PC pv0) 26)) (.cells (V.VC fun _=>0) 194);have p1:=zm (w.alloc (.cells (SA F) 136)) pv0;have v1:=V.zaL ((w.alloc (.cells (SA F) 136)).alloc (.cells (PC pv0) 26)) 194 (fun _=>0);simp only [World.size_alloc] at p1 v1;refine ⟨0,fun _=>[],none,0,[],Nat.zero_le _,rfl,rfl,⟨((jw w F).below b2).below b3,p1.below b3,v1.congr (fun r _=>by simp [leads]),OwnS.nil (b1.trans ((b2.trans (b3.mono b2.size)).mono b1.size)) (by simp) (by omega)⟩,fun r h=>by omega,rfl⟩
 case round =>
  obtain ⟨k,N,ao,cap,acc,hk,rfl,rfl,HI⟩:=hrel
  rename World=>w3
  by_cases hlt:k < 16
  ·have c1:=HI.out.1.s.cell k hlt;have HSF:=hide ((HF.out k hlt).below HI.out.1.o.below);obtain ⟨sa,sn,sc,hf⟩:∃ sa sn sc,(F k).ao=sa/\(F k).n=sn/\(F k).cap=sc:=⟨_,_,_,rfl,rfl,rfl⟩;rw [hf.1,hf.2.1,hf.2.2] at c1 HSF;clear hf;go_wp2_with fail;refine (zgt sa sn sc (F k).L _ HSF.out).mono ?_;rintro e w4 ⟨z,a1,n1,c1',L,rfl,S4,hL,b4,f4⟩;obtain ⟨X,hX,hz,hLX⟩:=hL.norm;have HX:=hide hX;have HZ:=hide hz;have HLX:=hide hLX;have HI4:=hide (HI.out.1.on b4);have HBS:=hide b4.size;have HA:=hide HI.out.2;have HS4:=hide S4;have hbg:=S4.big;have HLL:Hid (L.length=n1):=S4.len;have d1:=HI4.out.v.cell k hlt;have d2:=HI4.out.v.frozen k;have HFR:Hid (∀ ad,a1=some ad -> w3.heap.size <= ad.block):=f4;have HW3:=hide HI.out.1.o.hB;have HOB:Hid (∀ q,(Value.slice ao acc.length cap).ownBlock=some q -> q < w3.heap.size):=fun q h=>(HI.out.1.o.own.lt q h).2
   have HLF:=hide hL.1;clear hX hz hLX hL S4 b4 f4 HI HSF c1;go_wp2_with fail;have HI5:=hide ((HI4.out.vset k z))
   have HS5:Hid (RSrc (w4.setCell ⟨w.heap.size+1+1,k,none⟩ (.int .i64 z)) a1 n1 c1' L):=jy HS4.out (fun ad h=>by
    have h1:=HFR.out ad h;have h2:=HW3.out
    simp [World.setCell,Array.getElem?_modify,show ¬ w.heap.size+1+1=ad.block by omega])
   have HZ5:Hid (w3.heap.size <= (w4.setCell ⟨w.heap.size+1+1,k,none⟩ (.int .i64 z)).heap.size):=by
    have:=HI4.out.o.hB
    show _ <= _
    simp only [World.setCell,Array.size_modify];exact HBS.out
   generalize (w4.setCell ⟨w.heap.size+1+1,k,none⟩ (.int .i64 z))=w5 at HI5 HS5 HZ5 ⊢;go_loopw [4,25] (fun c i wr=>∃ (j:Nat) (ao':Option Addr) (cap':Nat) (acc':List Sn),j <= n1/\c = .slice ao' acc'.length cap'/\i = .int .i64 j/\Hid (CInv w wr F (V.fset (leads N k) k z) ao' cap' acc'/\acc'=acc++tag k (L.take j)/\RSrc wr a1 n1 c1' L/\(∀ ad,a1=some ad -> (Value.slice ao' acc'.length cap').ownBlock≠some ad.block))) (fun _ i _=>n1 - (intOf i).toNat)
   case atStart =>
    exact ⟨0,ao,cap,acc,Nat.zero_le _,rfl,rfl,HI5.out,by simp [tag],HS5.out,fun ad h e=>by have:=HOB.out _ e;have:=HFR.out ad h;omega⟩
   case round =>
    obtain ⟨j,ao',cap',acc',hj,rfl,rfl,HJ⟩:=hrel
    rename World=>w6
    clear HI4 HI5 HS5 HS4 d1 d2;by_cases hjl:j < n1
    ·obtain ⟨ad,rfl,A0⟩:=HJ.out.2.2.1.at j hjl;have hld:=jk A0;obtain ⟨x,Hx⟩:∃ x,Hid (L.getD j rn0=x):=⟨_,rfl⟩;rw [Hx.out] at hld
     have hjL:j < L.length:=by rw [HLL.out];exact hjl
     have HT:Hid (L.take (j+1)=L.take j++[x]):=by show _=_;rw [List.take_succ_eq_append_getElem hjL,<- Hx.out];simp [List.getD,hjL]
     obtain ⟨w7,hst,XB,b7,z7⟩:=made w6 x w6.heap.size rfl;have x0:=XB.at.c0;have x1:w7.cell? ⟨w6.heap.size,1,none⟩=some (.int .i64 x.hi):=XB.at.c1;have HJ7:=hide (HJ.out.1.on b7);have HL7:=hide (HJ.out.2.2.1.below b7);have HAB:=hide HJ.out.2.2.2;have HE:=hide HJ.out.2.1
     have HAL:Hid (acc'.length < 5864062014805):=by
      have h1:=xT (N:=N) k (fun r hr=>(HA.out.1 r hr).1);have h2:=qS (Int.le_refl _) HLF.out;have h3:=HA.out.2;have h4:=HJ.out.2.1
      show _ < _
      rw [h4,List.length_append,j5,h3,List.length_take];omega
     obtain ⟨m,Hm⟩:∃ m,Hid (acc'.length=m):=⟨_,rfl⟩;rw [Hm.out];have HBZ:=hide (World.block_lt_of_cell? _ _ (HL7.out.cell ad rfl 0 (by omega)).c0);clear XB b7 z7 A0 HJ;go_wp2_with (at_builtin;refine HJ7.out.o.append ⟨(k:Int),x.lo,x.hi⟩ _ rfl HAL.out rfl (.tmp 29) (.tmp 36) rfl m Hm.out rfl rfl ?_;intro g8 c8 w8 O8 h8);go_roundw
     case rel =>
      refine ⟨j+1,some ⟨g8,0,none⟩,c8,acc'++[⟨(k:Int),x.lo,x.hi⟩],by omega,by rw [List.length_append,Hm.out];rfl,by go_num,HJ7.out.push O8 h8,by rw [zfV HT.out,<- List.append_assoc,<- HE.out],?_,?_⟩
      ·exact jy HL7.out (fun ad' h=>(h8 _ (by obtain rfl:=Option.some.inj h;have:=HBZ.out;rw [zs] at this;exact this) (HAB.out ad' h)).1)
      ·intro ad' h e;have e':g8=ad'.block:=Option.some.inj e;exact (h8 _ (by obtain rfl:=Option.some.inj h;have:=HBZ.out;rw [zs] at this;exact this) (HAB.out ad' h)).2 e'
     case measure=>simp [intOf];omega
    ·obtain rfl:j=n1:=by omega
     have HNN:Hid (∀ r,r < k+1 -> NormOf (F r).L ((fun r=>if r=k then X else N r) r)):=fun r hr=>by
      dsimp only;by_cases e:r=k
      ·subst e;rw [if_pos rfl];exact HX.out
      ·rw [if_neg e];exact HA.out.1 r (by omega)
     have HCN:Hid (acc'=cloudN (fun r=>if r=k then X else N r) (k+1)):=by
      show _=_
      have h:cloudN (fun r=>if r=k then X else N r) k=cloudN N k:=jU k (fun r hr=>by simp;omega);rw [HJ.out.2.1,HA.out.2,cloudN,h,<- HLL.out,List.take_length,HLX.out];simp
     have HFS:Hid (∀ r,r < 16 -> V.fset (leads N k) k z r=leads (fun r=>if r=k then X else N r) (k+1) r):=fun r _=>by
      unfold V.fset leads;by_cases e:r=k
      ·subst e;simp [HZ.out]
      ·by_cases h:r < k
       ·simp [e,h,show r < k+1 by omega]
       ·simp [e,h,show ¬ r < k+1 by omega]
     have HJ1:=hide HJ.out.1;clear HJ;go_wp2_with fail;go_roundw
     case rel=>exact ⟨k+1,fun r=>if r=k then X else N r,ao',cap',acc',by omega,rfl,by go_num,HJ1.out.congr HFS.out,HNN.out,HCN.out⟩
     case measure=>simp [intOf];omega
  ·obtain rfl:k=16:=by omega
   have HV:Hid (V.Src w3 (some ⟨w.heap.size+1+1,0,none⟩) 16 16 ((List.range 16).map (leads N 16))):=⟨by simp,fun h=>(by cases h),fun ad h t ht=>by
    obtain rfl:=Option.some.inj h;rw [Addr.add_lit,Nat.zero_add,HI.out.1.v.cell t ht]
    simp [List.getD,ht]⟩
   have HE:Hid (V.short (V.at' ((List.range 16).map (leads N 16)))=V.short (fun r=>leadOf (N r))):=xU (fun r hr=>by
    have hb:=jQ (HI.out.2.1 r hr).1;unfold V.at' V.clamp;rw [if_pos hr];simp [List.getD,hr,leads]
    omega)
   obtain ⟨m,Hm⟩:∃ m,Hid (acc.length=m):=⟨_,rfl⟩;rw [Hm.out];go_wp2_with fail;refine (V.wv _ _ _ _ _ HV.out).mono ?_;rintro e w5 ⟨vo,vn,vc,rfl,S5,b5,f5⟩;have I5:=HI.out.1.on b5;have hal:=xT (N:=N) 16 (fun r hr=>(HI.out.2.1 r hr).1);rw [<- HI.out.2.2] at hal;obtain ⟨S6,f6⟩:=I5.o.src (by omega);rw [Hm.out] at S6;rw [HE.out] at S5;obtain ⟨p',Hp'⟩:∃ p':Pv,p'=⟨vo,vn,vc,ao,m,cap,⟨V.short (fun r=>leadOf (N r)),acc⟩⟩:=⟨_,rfl⟩
   have s1:(stP (.pointer (some ⟨w.heap.size+1,0,none⟩)) (.agg #[.slice vo vn vc,.slice ao m cap])).run Tryz.prog w5 = .ok () (w5.setRow (w.heap.size+1) (PC p')):=by
    have:=qV (p':=p') I5.p;rw [Hp'] at this ⊢;exact this
   have HP:Hid (PBox (w5.setRow (w.heap.size+1) (PC p')) (w.heap.size+1) p'):=setRow_heap _ _ _ _ _ _ I5.p;have h3:=HI.out.1.o.hB
   have HQ:Hid (PSrc (w5.setRow (w.heap.size+1) (PC p')) p'/\PNew w.heap.size p'/\Below w.heap.size w (w5.setRow (w.heap.size+1) (PC p'))/\CanonOf (fun r=>(F r).L) p'.P):=by
    refine ⟨⟨?_,?_,?_⟩,⟨?_,?_⟩,zh I5.o.below (by omega),N,HI.out.2.1,?_⟩
    ·rw [Hp'];exact S5.off (fun ad h=>setRow_other _ _ _ _ (fun e=>by have:=f5 ad h;omega))
    ·rw [Hp'];exact S6.off (fun ad h=>setRow_other _ _ _ _ (fun e=>by have:=f6 ad h;omega))
    ·rw [Hp'];have:=S5.1;rw [V.zS] at this;have h16:=V.vR (fun r=>leadOf (N r));show vn <= _;omega
    ·rw [Hp'];exact fun ad h=>by have:=f5 ad h;omega
    ·rw [Hp'];exact fun ad h=>by have:=f6 ad h;omega
    ·rw [Hp'];show (⟨_,acc⟩:Pst)=_;rw [HI.out.2.2];rfl
   clear S5 S6 f5 f6 hal h3 I5 b5 Hp';go_wp2_with fail;exact bodyPost_ret (v:=PV p') (resP Tryz.results102 rfl HP.out) rfl ⟨p',rfl,HQ.out⟩
end
end Go.Proofs.YtjffpimfngdggaaGreat
