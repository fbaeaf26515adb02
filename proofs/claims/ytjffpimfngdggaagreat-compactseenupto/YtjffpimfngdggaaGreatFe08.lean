/- PSo PCa -/
import Derived.Test.YtjffpimfngdggaaGreatTk
import Derived.Test.YtjffpimfngdggaaGreatFe03
import Derived.Deep.RegionHeldLaw
import Derived.Test.YtjffpimfngdggaaGreatFe06
set_option maxRecDepth 100000
set_option maxHeartbeats 4000000
namespace Go.Proofs.YtjffpimfngdggaaGreat
section
open Go.RowKit
attribute [local go_sem ↓] zq zp vM vJ xT jn
attribute [local go_sem] x6 xj zE zi xN qB qm ko zj qY
theorem zP (r:Int) (w:World):Calls Tryz.prog 108 #[.int .i64 r] w fun e w'=>e = .returned (.bool (V.isR r))/\w'=w:=by
 go_enter Tryz.func108,Tryz.ntmps108;by_cases h0:0 <= r
 ·have HR:Hid (V.isR r=decide (r < 16)):=by show _=_;unfold V.isR;rw [decide_eq_true h0,Bool.true_and]
  go_wp2;go_ret;exact ⟨zu HR.out.symm,rfl⟩
 ·have HR:Hid (V.isR r=false):=by show _=_;unfold V.isR;rw [decide_eq_false h0,Bool.false_and]
  go_wp2;go_ret;exact ⟨zu HR.out.symm,rfl⟩

theorem xq (ao:Option Addr) (q cap:Nat) (X:List Pv) (w:World) (hS:fq w ao q X) (hN:wt X <= 8796093022207) (hq:q <= 8796093022207) :
  Calls Tryz.prog 90 #[.slice ao q cap] w fun e w'=>BC w w' e (aw X):=by
 have HS:=hide hS;have HN:=hide hN;clear hS hN;go_enter Tryz.func90,Tryz.ntmps90;go_wp2_with fail;go_loopw [12] (fun i wr=>∃ (k:Nat) (F:Nat -> Sl),k <= q/\i = .int .i64 k/\Hid (fO w wr F (aw (X.take k)))) (fun i _=>q - (intOf i).toNat)
 case atStart =>
  refine ⟨0,fun _=>sl0,Nat.zero_le _,rfl,⟨(jv w _).below (ze _ _),?_,cY.nil _ _,fun r _=>rfl,((Below.refl _ _).alloc (Nat.le_refl _) _).alloc (by simp) _,by simp⟩⟩;have:=jv (w.alloc (.cells (SA fun _=>sl0) 136)) (fun _=>sl0);rw [World.size_alloc] at this;exact this
 case round =>
  obtain ⟨k,F,hk,rfl,HI⟩:=hrel
  rename World=>w3
  by_cases ak:k < q
  ·obtain ⟨ad,p,rfl,hp,A0,_⟩:=(HS.out.below HI.out.b).at k ak;have oh:=hide (HS.out.src p (List.mem_of_getElem? hp));have dK:=zl A0;obtain ⟨w4,a8,PB,b4,z4⟩:=it w3 p w3.heap.size rfl;have HW:=hide (ziK hp);have Hf:=hide (wH hp);have uf:=hide (HI.out.on b4);have iJ:=hide PB;have mD:=hide (HI.out.off w3.heap.size (Or.inr (Nat.le_refl _)));have pl:=hide HI.out.h;clear A0 PB b4 z4 hp;go_wp2_with fail;go_loopw [16] (fun i wr=>∃ (j:Nat) (F:Nat -> Sl),j <= 16/\i = .int .i64 j/\Hid (fO w wr F (fun r=>aw (X.take k) r++(if r < j then aW (V.at' p.P.vec r) else [])))/\Hid (wr.heap[w3.heap.size]? = some (.cells (PC p) 26 (0,0))/\Off F w3.heap.size)) (fun i _=>16 - (intOf i).toNat)
   case atStart=>exact ⟨0,F,Nat.zero_le _,rfl,uf.out.congr (fun r _=>by simp),iJ.out,mD.out⟩
   case round =>
    obtain ⟨j,F,hj,rfl,HI,ur⟩:=hrel
    rename World=>w5
    clear uf iJ mD;have PB:aA w5 w3.heap.size p:=ur.out.1;obtain ⟨n0,n1⟩:=PB.nums;have pZ:=hide (oh.out.below HI.out.b);have Fy:=HW.out;have r9:=HN.out;by_cases gt:j < 16
    ·have FR:Hid (V.atI p.P.vec j=V.at' p.P.vec j):=by show _=_;unfold V.atI;rw [if_pos (by simp [V.isR];omega),Int.toNat_natCast]
     obtain ⟨z,Hz⟩:∃ z,Hid (V.at' p.P.vec j=z):=⟨_,rfl⟩;rw [Hz.out] at FR;by_cases hz:0 < z
     ·have ic:=HI.out.len gt;have ip:=vx (X.take k) j;have fj:=hide (fun r (_:r < 16)=>zfK (A:=aw (X.take k)) (f:=V.at' p.P.vec) Hz.out hz r);simp only [Nat.lt_irrefl,if_false,List.append_nil] at ic
      have eW:Hid ((F j).n < 8796093022207):=by show _ < _;omega
      have c1:=HI.out.s.cell j gt;obtain ⟨sa,sn,sc,hf⟩:∃ sa sn sc,(F j).ao=sa/\(F j).n=sn/\(F j).cap=sc:=⟨_,_,_,rfl,rfl,rfl⟩;rw [hf.1,hf.2.1,hf.2.2] at c1;have HF:=hide hf;clear hf ic ip Fy r9;go_wp2_with (first | (go_at_call 109;refine (V.xd _ _ _ p.P.vec j _ pZ.out.vec).mono ?_;rintro e w' ⟨rfl,rfl⟩;rw [FR.out]) | (at_builtin;refine HI.out.o.append HI.out.h j gt ⟨1,z⟩ _ rfl eW.out rfl (.tmp 28) (.tmp 31) rfl sa sn sc HF.out rfl rfl ?_;intro g6 c6 w6 O6 h2 h3 h4;have d1:=(HI.out.mid h2).cell j gt;have d2:=(HI.out.mid h2).frozen j;have HP:=hide (HI.out.push j gt ⟨1,z⟩ sn c6 g6 O6 h2 h3 h4 _ rfl);have HK:=hide (kP (B:=w.heap.size+1) (k:=j) (v:=.slice (some ⟨g6,0,none⟩) (sn+1) c6) h2 PB.lt ur.out.2 (by have:=pl.out;omega));clear O6 h2 h3 h4));go_roundw
      case rel=>exact ⟨j+1,_,by omega,by go_num,HP.out.congr fj.out,HK.out.1.trans PB,HK.out.2⟩
      case measure=>simp [intOf];omega
     ·have fj:=hide (fun r (_:r < 16)=>zfL (A:=aw (X.take k)) (f:=V.at' p.P.vec) Hz.out hz r);go_wp2_with (go_at_call 109;refine (V.xd _ _ _ p.P.vec j _ pZ.out.vec).mono ?_;rintro e w' ⟨rfl,rfl⟩;rw [FR.out]);go_roundw
      case rel=>exact ⟨j+1,F,by omega,by go_num,HI.out.congr fj.out,ur⟩
      case measure=>simp [intOf];omega
    ·obtain rfl:j=16:=by omega
     have HL:=pZ.out.cloud.len;have dN:=pZ.out.cloud.big;have KV:=hide (HI.out.congr (G':=fun r=>(aw (X.take k) r++aW (V.at' p.P.vec r))++ag (p.P.cloud.take 0) r) (fun r hr=>by simp [hr,ag]));clear Fy r9;obtain ⟨co,Ll⟩:∃ co,Hid (p.co=co):=⟨_,rfl⟩;have sV:=hide oh.out.cloud;rw [Ll.out] at n1 sV;rw [show ((16:Nat):Int)=16 from rfl];go_wp2_with fail;go_loopw [38] (fun i wr=>∃ (j:Nat) (F:Nat -> Sl),j <= p.cn/\i = .int .i64 j/\Hid (fO w wr F (fun r=>(aw (X.take k) r++aW (V.at' p.P.vec r))++ag (p.P.cloud.take j) r))) (fun i _=>p.cn - (intOf i).toNat)
     case atStart=>exact ⟨0,F,Nat.zero_le _,rfl,KV⟩
     case round =>
      obtain ⟨j,F,hj,rfl,HI⟩:=hrel
      rename World=>w7
      clear KV ur PB n0 n1 pZ pl;by_cases gt:j < p.cn
      ·obtain ⟨ca,rfl,A1⟩:=(sV.out.below HI.out.b).at j gt;obtain ⟨c,Hc⟩:∃ c,Hid (p.P.cloud.getD j sn0=c):=⟨_,rfl⟩;rw [Hc.out] at A1
       have CC:j < p.P.cloud.length:=by rw [HL];exact gt
       have BV:Hid (p.P.cloud.take (j+1)=p.P.cloud.take j++[c]):=by show _=_;rw [List.take_succ_eq_append_getElem CC,<- Hc.out];simp [List.getD,CC]
       have tm:=qk A1;obtain ⟨w8,oY,SB,b8,z8⟩:=lE w7 c w7.heap.size rfl;have eU:=hide (HI.out.on b8);have ts:=hide (HI.out.off w7.heap.size (Or.inr (Nat.le_refl _)))
       obtain ⟨m0,m1,m2⟩:=SB.at
       have gf:=hide SB;have pK:=hide HI.out.h;clear b8 z8 A1 SB;obtain ⟨x,Hx⟩:∃ x,Hid (V.isR c.rep=x):=⟨_,rfl⟩
       cases x with
       | false =>
        have fj:=hide (fun r (hr:r < 16)=>vF (A:=fun r=>aw (X.take k) r++aW (V.at' p.P.vec r)) (L:=p.P.cloud.take j) Hx.out r hr);rw [<- BV.out] at fj;go_wp2_with (go_at_call 108;refine (zP c.rep _).mono ?_;rintro e w' ⟨rfl,rfl⟩;rw [Hx.out]);go_roundw
        case rel=>exact ⟨j+1,F,by omega,by go_num,eU.out.congr fj.out⟩
        case measure=>simp [intOf];omega
       | true =>
        have Gt:0 <= c.rep/\c.rep < 16:=by have:=Hx.out;unfold V.isR at this;simpa using this
        obtain ⟨y,Hy⟩:∃ y:Nat,Hid (c.rep=(y:Int)):=⟨c.rep.toNat,by show _=_;omega⟩
        have hy:y < 16:=by have:=Hy.out;omega
        have fj:=hide (fun r (_:r < 16)=>yX (A:=fun r=>aw (X.take k) r++aW (V.at' p.P.vec r)) (L:=p.P.cloud.take j) Hy.out r);rw [<- BV.out] at fj
        have eW:Hid ((F y).n < 8796093022207):=by
         have h1:=HI.out.len hy;have h2:=vx (X.take k) y;have h3:=wE (V.at' p.P.vec y);have h4:=xJ (p.P.cloud.take j) y;have h5:=HW.out;have h6:=HN.out;simp only [List.length_append,List.length_take] at h1 h4
         show _ < _
         omega
        rw [Hy.out] at m0;have c1:=eU.out.s.cell y hy;obtain ⟨sa,sn,sc,hf⟩:∃ sa sn sc,(F y).ao=sa/\(F y).n=sn/\(F y).cap=sc:=⟨_,_,_,rfl,rfl,rfl⟩;rw [hf.1,hf.2.1,hf.2.2] at c1;have HF:=hide hf
        have y0:(0:Int) <= (y:Int):=by omega
        have y1:(y:Int) < 16:=by omega
        have cU:Hid (∀ W:World,W.heap[w7.heap.size]? = w8.heap[w7.heap.size]? -> W.cell? ⟨w7.heap.size,0,none⟩=some (.int .i64 (y:Int))/\W.cell? ⟨w7.heap.size,1,none⟩=some (.int .i64 c.lo)/\W.cell? ⟨w7.heap.size,2,none⟩=some (.int .i64 c.hi)):=fun W e1 =>
         ⟨(World.cell?_of_block e1).trans m0,(World.cell?_of_block e1).trans m1,(World.cell?_of_block e1).trans m2⟩
        have a1:=((ze w8 (.cells #[.int .i64 c.lo,.int .i64 c.hi] 182)).cell (World.block_lt_of_cell? _ _ c1)).trans c1;have LR:=hide (World.block_lt_of_cell? _ _ c1);clear hf Gt;go_wp2_with (go_at_call 108;refine (zP _ _).mono ?_;rintro e w' ⟨rfl,rfl⟩;rw [<- Hy.out,Hx.out]);refine wp_region_held_drew (S:=fun W=>W.cell? ⟨w7.heap.size,0,none⟩=some (.int .i64 (y:Int))/\W.cell? ⟨w7.heap.size,1,none⟩=some (.int .i64 c.lo)/\W.cell? ⟨w7.heap.size,2,none⟩=some (.int .i64 c.hi)) (by kernel_rfl) (cU.out _ rfl) (fun hHeld=>?_);refine wU 0 ?_;refine wU 1 ?_;refine wU 2 ?_;refine wU 3 ?_;refine wU 4 ?_;refine wU 6 ?_;refine wU 7 ?_;refine wU 8 ?_;refine wU 9 ?_;refine wU 10 ?_;refine wpAnyH_ready (rs:=[5,11]) (by kernel_rfl) (by simp) ?_;refine AllReadyH.cons rfl (fun K hK=>?_) ?_
        ·go_simp;refine hK.out _ _ (cU.out _ rfl) (fun hHeld=>?_);clear hK K;refine wpAnyH_ready (rs:=[11]) (by kernel_rfl) (by simp) (.cons rfl (fun K hK=>?_) .nil);go_simp;refine hK.out _ _ (cU.out _ (Below.heap_alloc _ _ _ gf.out.lt)) (fun hHeld=>?_);clear hK K;refine wpAnyH_ready (rs:=[12]) (by kernel_rfl) (by simp) (.cons rfl (fun K hK=>?_) .nil);refine eU.out.o.step eU.out.h y hy ⟨c.lo,c.hi⟩ _ (by rfl) eW.out (by rfl) (.tmp 50) (.tmp 56) (by rfl) sa sn sc HF.out (by rfl) _ (by rfl) (by rfl) ?_;intro g6 c6 w6 O6 h2 h3 h4;have d1:=(eU.out.mid h2).cell y hy;have d2:=(eU.out.mid h2).frozen y;have HP:=hide (eU.out.push y hy ⟨c.lo,c.hi⟩ sn c6 g6 O6 h2 h3 h4 _ rfl);have uR:=hide (kP (B:=w.heap.size+1) (k:=y) (v:=.slice (some ⟨g6,0,none⟩) (sn+1) c6) h2 gf.out.lt ts.out (by have:=pK.out;omega)).1;refine hK.out _ _ (cU.out _ (h2 _ gf.out.lt ts.out).1) (fun hHeld=>?_)
         clear hK K;refine wU 13 ?_;refine wpAnyH_ready (rs:=[14]) (by kernel_rfl) (by simp) (.cons rfl (fun K hK=>?_) .nil);go_simp;refine hK.out _ _ (cU.out _ uR.out) (fun hHeld=>?_);clear hK K;refine wpAnyH_done (by kernel_rfl) ?_ _;clear hHeld O6 h2 h3 h4;go_wp2_with fail;go_roundw
         case rel=>exact ⟨j+1,_,by omega,by go_num,HP.out.congr fj.out⟩
         case measure=>simp [intOf];omega
        ·refine AllReadyH.cons rfl (fun K hK=>?_) ?_;rotate_left
         ·exact AllReadyH.nil
         go_simp;refine hK.out _ _ (cU.out _ (Below.heap_alloc _ _ _ gf.out.lt)) (fun hHeld=>?_);clear hK K;refine wpAnyH_ready (rs:=[5]) (by kernel_rfl) (by simp) (.cons rfl (fun K hK=>?_) .nil);go_simp;refine hK.out _ _ (cU.out _ (Below.heap_alloc _ _ _ gf.out.lt)) (fun hHeld=>?_);clear hK K;refine wpAnyH_ready (rs:=[12]) (by kernel_rfl) (by simp) (.cons rfl (fun K hK=>?_) .nil);refine eU.out.o.step eU.out.h y hy ⟨c.lo,c.hi⟩ _ (by rfl) eW.out (by rfl) (.tmp 50) (.tmp 56) (by rfl) sa sn sc HF.out (by rfl) _ (by rfl) (by rfl) ?_;intro g6 c6 w6 O6 h2 h3 h4;have d1:=(eU.out.mid h2).cell y hy;have d2:=(eU.out.mid h2).frozen y;have HP:=hide (eU.out.push y hy ⟨c.lo,c.hi⟩ sn c6 g6 O6 h2 h3 h4 _ rfl);have uR:=hide (kP (B:=w.heap.size+1) (k:=y) (v:=.slice (some ⟨g6,0,none⟩) (sn+1) c6) h2 gf.out.lt ts.out (by have:=pK.out;omega)).1
         refine hK.out _ _ (cU.out _ (h2 _ gf.out.lt ts.out).1) (fun hHeld=>?_);clear hK K;refine wU 13 ?_;refine wpAnyH_ready (rs:=[14]) (by kernel_rfl) (by simp) (.cons rfl (fun K hK=>?_) .nil);go_simp;refine hK.out _ _ (cU.out _ uR.out) (fun hHeld=>?_);clear hK K;refine wpAnyH_done (by kernel_rfl) ?_ _;clear hHeld O6 h2 h3 h4;go_wp2_with fail;go_roundw
         case rel=>exact ⟨j+1,_,by omega,by go_num,HP.out.congr fj.out⟩
         case measure=>simp [intOf];omega
      ·obtain rfl:j=p.cn:=by omega
       have fj:Hid (∀ r,r < 16 -> (aw (X.take k) r++aW (V.at' p.P.vec r))++ag (p.P.cloud.take p.cn) r=aw (X.take (k+1)) r):=fun r _=>by
        rw [Hf.out,bG,qZ,ae,<- HL,List.take_length,List.append_assoc]
       go_wp2_with fail;go_roundw
       case rel=>exact ⟨k+1,F,by omega,by go_num,HI.out.congr fj.out⟩
       case measure=>simp [intOf];omega
  ·obtain rfl:k=q:=by omega
   have l1:=wN HI.out.s;have s1:=wM (F':=F) HI.out.z
   have HF:Hid (∀ r,r < 16 -> (F r).L=aw X r):=fun r hr=>by rw [HI.out.l r hr,<- HS.out.len,List.take_length]
   have HB:Hid (dw w.heap.size (w3.setRow w.heap.size (SA F)) F (aw X)):=by
    have hO:cY (w.heap.size+2) (w3.setRow w.heap.size (SA F)) F:=HI.out.o.kept (fun q hq fw=>setRow_other _ _ _ _ (fun e=>fw (by rw [e];exact HI.out.off _ (Or.inl (by omega)))));have ak:∀ r,r < 16 -> ∀ ad,(F r).ao=some ad -> w.heap.size+2 <= ad.block/\ad.block < (w3.setRow w.heap.size (SA F)).heap.size:=fun r hr ad e=>hO.lt hr (by unfold blk;rw [e];rfl);refine ⟨fun r hr=>hO.src (by have:=HI.out.h;simp [World.setRow];omega) hr ?_,HF.out,fun r hr ad e=>by have:=ak r hr ad e;omega,fun r hr ad e=>(ak r hr ad e).2⟩;have h1:=vx X r;have h2:=HI.out.o.len hr;have h3:=HF.out r hr;have h4:=HN.out;rw [h3] at h2;omega
   go_wp2_with fail;exact bodyPost_ret (v:=SAv F) (Jk Tryz.results90 rfl HI.out.z.setRow) rfl ⟨F,rfl,HB.out,zh HI.out.b (Nat.le_refl _)⟩
end
section
open Go.RowKit
attribute [local go_sem ↓] zq zp vM vJ kM ky
attribute [local go_sem] x6 xj zE zi zS zC qm ql zj zN V.vV xN zaE qB ko qY
theorem zg9 (vo:Option Addr) (vn vc:Nat) (co:Option Addr) (cn cc:Nat):((PC pv0).setIfInBounds 0 (.slice vo vn vc)).setIfInBounds 1 (.slice co cn cc)=#[.slice vo vn vc,.slice co cn cc]:=rfl
attribute [local go_sem] zg9
structure gS (w W:World) (F:Nat -> Sl) (f:Nat -> Int) (ao:Option Addr) (cap:Nat) (acc:List Sn):Prop where
 s:cG W w.heap.size F
 p:aA W (w.heap.size+1) pv0
 v:V.Arr W (w.heap.size+1+1) 194 f
 o:eH w.heap.size (w.heap.size+3) w W ao cap acc
theorem gS.on {w W W':World} {F:Nat -> Sl} {f:Nat -> Int} {ao:Option Addr} {cap:Nat} {acc:List Sn} (I:gS w W F f ao cap acc) (hb:Below W.heap.size W W'):gS w W' F f ao cap acc:=
 ⟨I.s.below hb,I.p.below hb,I.v.below hb,I.o.later hb⟩
theorem gS.push {w W W':World} {F:Nat -> Sl} {f:Nat -> Int} {ao ao':Option Addr} {cap cap':Nat} {acc acc':List Sn} (I:gS w W F f ao cap acc) (O:eH w.heap.size (w.heap.size+3) w W' ao' cap' acc')
  {g:Nat} (hk:∀ k,k < W.heap.size -> (Value.slice ao acc.length cap).ownBlock≠some k -> W'.heap[k]? = W.heap[k]? /\ g≠k):gS w W' F f ao' cap' acc':=by
 have hB:=I.o.hB;have key:∀ k,k < w.heap.size+3 -> W'.heap[k]? = W.heap[k]?:=fun k ak=>(hk k (by omega) (fun e=>by have:=(I.o.own.lt k e).1;omega)).1;exact ⟨(key _ (by omega)).trans I.s,(key _ (by omega)).trans I.p,(key _ (by omega)).trans I.v,O⟩
theorem gS.vset {w W:World} {F:Nat -> Sl} {f:Nat -> Int} {ao:Option Addr} {cap:Nat} {acc:List Sn} (I:gS w W F f ao cap acc) (k:Nat) (z:Int):gS w (W.setCell ⟨w.heap.size+1+1,k,none⟩ (.int .i64 z)) F (V.mh f k z) ao cap acc:=by
 have other:∀ q,q≠w.heap.size+1+1 -> (W.setCell ⟨w.heap.size+1+1,k,none⟩ (.int .i64 z)).heap[q]? = W.heap[q]?:=fun q hq=>by
  simp [World.setCell,Array.getElem?_modify,show ¬ w.heap.size+1+1=q by omega]
 refine ⟨(other _ (by omega)).trans I.s,(other _ (by omega)).trans I.p,I.v.set k z,⟨⟨I.o.own.1,?_⟩,V.qg I.o.below (by simp;omega),by have:=I.o.hB;simp [World.setCell];omega,I.o.hB0⟩⟩;rcases I.o.own.2 with h | ⟨g,cap2,cur,hv,dN,dy,r⟩
 ·exact Or.inl h
 ·exact Or.inr ⟨g,cap2,cur,hv,dN,(other g (by omega)).trans dy,r⟩
theorem gS.congr {w W:World} {F:Nat -> Sl} {f f':Nat -> Int} {ao:Option Addr} {cap:Nat} {acc:List Sn} (I:gS w W F f ao cap acc) (h:∀ r,r < 16 -> f r=f' r):gS w W F f' ao cap acc:=⟨I.s,I.p,I.v.congr h,I.o⟩
def gU (N:Nat -> List Rn) (k:Nat):Nat -> Int:=fun r=>if r < k then ar (N r) else 0
theorem zfN {L:List Rn} {k j:Nat} {x:Rn} (h:L.take (j+1)=L.take j++[x]):tag k (L.take (j+1))=tag k (L.take j)++[⟨(k:Int),x.lo,x.hi⟩]:=by rw [h];simp [tag]

theorem qP (F:Nat -> Sl) (w:World) (hF:∀ r,r < 16 -> aX w (F r).ao (F r).n (F r).cap (F r).L) :
  Calls Tryz.prog 102 #[SAv F] w fun e w'=>cV w w' e (af (fun r=>(F r).L)):=by
 have HF:=hide hF;clear hF;go_enter Tryz.func102,Tryz.ntmps102;go_wp2_with fail;go_loopw [4,10] (fun c i wr=>∃ (k:Nat) (N:Nat -> List Rn) (ao:Option Addr) (cap:Nat) (acc:List Sn),k <= 16/\c = .slice ao acc.length cap/\i = .int .i64 k/\Hid (gS w wr F (gU N k) ao cap acc/\(∀ r,r < k -> aT (F r).L (N r))/\acc=aJ N k)) (fun _ i _=>16 - (intOf i).toNat)
 case atStart =>
  have b1:=ze w (.cells (SA F) 136);have b2:=ze (w.alloc (.cells (SA F) 136)) (.cells (PC pv0) 26);have b3:=ze ((w.alloc (.cells (SA F) 136)).alloc (.cells (PC pv0) 26)) (.cells (V.VC fun _=>0) 194);have p1:=zr (w.alloc (.cells (SA F) 136)) pv0;have v1:=V.zaH ((w.alloc (.cells (SA F) 136)).alloc (.cells (PC pv0) 26)) 194 (fun _=>0);simp only [World.size_alloc] at p1 v1;refine ⟨0,fun _=>[],none,0,[],Nat.zero_le _,rfl,rfl,⟨((jv w F).below b2).below b3,p1.below b3,v1.congr (fun r _=>by simp [gU]),eH.nil (b1.trans ((b2.trans (b3.mono b2.size)).mono b1.size)) (by simp) (by omega)⟩,fun r h=>by omega,rfl⟩
 case round =>
  obtain ⟨k,N,ao,cap,acc,hk,rfl,rfl,HI⟩:=hrel
  rename World=>w3
  by_cases ak:k < 16
  ·have c1:=HI.out.1.s.cell k ak;have Ce:=hide ((HF.out k ak).below HI.out.1.o.below);obtain ⟨sa,sn,sc,hf⟩:∃ sa sn sc,(F k).ao=sa/\(F k).n=sn/\(F k).cap=sc:=⟨_,_,_,rfl,rfl,rfl⟩;rw [hf.1,hf.2.1,hf.2.2] at c1 Ce;clear hf;go_wp2_with fail;refine (zgn sa sn sc (F k).L _ Ce.out).mono ?_;rintro e w4 ⟨z,a1,n1,c1',L,rfl,S4,hL,b4,f4⟩;obtain ⟨X,hX,hz,Ki⟩:=hL.norm;have HX:=hide hX;have HZ:=hide hz;have se:=hide Ki;have uf:=hide (HI.out.1.on b4);have L9:=hide b4.size;have HA:=hide HI.out.2;have BR:=hide S4;have dN:=S4.big;have Ah:Hid (L.length=n1):=S4.len;have d1:=uf.out.v.cell k ak;have d2:=uf.out.v.frozen k;have Av:Hid (∀ ad,a1=some ad -> w3.heap.size <= ad.block):=f4;have MM:=hide HI.out.1.o.hB;have M6:Hid (∀ q,(Value.slice ao acc.length cap).ownBlock=some q -> q < w3.heap.size):=fun q h=>(HI.out.1.o.own.lt q h).2
   have Lj:=hide hL.1;clear hX hz Ki hL S4 b4 f4 HI Ce c1;go_wp2_with fail;have GK:=hide ((uf.out.vset k z))
   have u5:Hid (aX (w4.setCell ⟨w.heap.size+1+1,k,none⟩ (.int .i64 z)) a1 n1 c1' L):=jw BR.out (fun ad h=>by
    have h1:=Av.out ad h;have h2:=MM.out
    simp [World.setCell,Array.getElem?_modify,show ¬ w.heap.size+1+1=ad.block by omega])
   have DE:Hid (w3.heap.size <= (w4.setCell ⟨w.heap.size+1+1,k,none⟩ (.int .i64 z)).heap.size):=by
    have:=uf.out.o.hB
    show _ <= _
    simp only [World.setCell,Array.size_modify];exact L9.out
   generalize (w4.setCell ⟨w.heap.size+1+1,k,none⟩ (.int .i64 z))=w5 at GK u5 DE ⊢;go_loopw [4,25] (fun c i wr=>∃ (j:Nat) (ao':Option Addr) (cap':Nat) (acc':List Sn),j <= n1/\c = .slice ao' acc'.length cap'/\i = .int .i64 j/\Hid (gS w wr F (V.mh (gU N k) k z) ao' cap' acc'/\acc'=acc++tag k (L.take j)/\aX wr a1 n1 c1' L/\(∀ ad,a1=some ad -> (Value.slice ao' acc'.length cap').ownBlock≠some ad.block))) (fun _ i _=>n1 - (intOf i).toNat)
   case atStart =>
    exact ⟨0,ao,cap,acc,Nat.zero_le _,rfl,rfl,GK.out,by simp [tag],u5.out,fun ad h e=>by have:=M6.out _ e;have:=Av.out ad h;omega⟩
   case round =>
    obtain ⟨j,ao',cap',acc',hj,rfl,rfl,HJ⟩:=hrel
    rename World=>w6
    clear uf GK u5 BR d1 d2;by_cases gt:j < n1
    ·obtain ⟨ad,rfl,A0⟩:=HJ.out.2.2.1.at j gt;have dK:=jg A0;obtain ⟨x,Hx⟩:∃ x,Hid (L.getD j rn0=x):=⟨_,rfl⟩;rw [Hx.out] at dK
     have KZ:j < L.length:=by rw [Ah.out];exact gt
     have HT:Hid (L.take (j+1)=L.take j++[x]):=by show _=_;rw [List.take_succ_eq_append_getElem KZ,<- Hx.out];simp [List.getD,KZ]
     obtain ⟨w7,a8,XB,b7,z7⟩:=made w6 x w6.heap.size rfl;have x0:=XB.at.c0;have x1:w7.cell? ⟨w6.heap.size,1,none⟩=some (.int .i64 x.hi):=XB.at.c1;have KR:=hide (HJ.out.1.on b7);have JI:=hide (HJ.out.2.2.1.below b7);have DM:=hide HJ.out.2.2.2;have HE:=hide HJ.out.2.1
     have gl:Hid (acc'.length < 5864062014805):=by
      have h1:=xM (N:=N) k (fun r hr=>(HA.out.1 r hr).1);have h2:=xt (Int.le_refl _) Lj.out;have h3:=HA.out.2;have h4:=HJ.out.2.1
      show _ < _
      rw [h4,List.length_append,j3,h3,List.length_take];omega
     obtain ⟨m,Hm⟩:∃ m,Hid (acc'.length=m):=⟨_,rfl⟩;rw [Hm.out];have KN:=hide (World.block_lt_of_cell? _ _ (JI.out.cell ad rfl 0 (by omega)).c0);clear XB b7 z7 A0 HJ;go_wp2_with (at_builtin;refine KR.out.o.append ⟨(k:Int),x.lo,x.hi⟩ _ rfl gl.out rfl (.tmp 29) (.tmp 36) rfl m Hm.out rfl rfl ?_;intro g8 c8 w8 O8 h8);go_roundw
     case rel =>
      refine ⟨j+1,some ⟨g8,0,none⟩,c8,acc'++[⟨(k:Int),x.lo,x.hi⟩],by omega,by rw [List.length_append,Hm.out];rfl,by go_num,KR.out.push O8 h8,by rw [zfN HT.out,<- List.append_assoc,<- HE.out],?_,?_⟩
      ·exact jw JI.out (fun ad' h=>(h8 _ (by obtain rfl:=Option.some.inj h;have:=KN.out;rw [zs] at this;exact this) (DM.out ad' h)).1)
      ·intro ad' h e;have e':g8=ad'.block:=Option.some.inj e;exact (h8 _ (by obtain rfl:=Option.some.inj h;have:=KN.out;rw [zs] at this;exact this) (DM.out ad' h)).2 e'
     case measure=>simp [intOf];omega
    ·obtain rfl:j=n1:=by omega
     have px:Hid (∀ r,r < k+1 -> aT (F r).L ((fun r=>if r=k then X else N r) r)):=fun r hr=>by
      dsimp only;by_cases e:r=k
      ·subst e;rw [if_pos rfl];exact HX.out
      ·rw [if_neg e];exact HA.out.1 r (by omega)
     have Aw:Hid (acc'=aJ (fun r=>if r=k then X else N r) (k+1)):=by
      show _=_
      have h:aJ (fun r=>if r=k then X else N r) k=aJ N k:=jS k (fun r hr=>by simp;omega);rw [HJ.out.2.1,HA.out.2,aJ,h,<- Ah.out,List.take_length,se.out];simp
     have Bf:Hid (∀ r,r < 16 -> V.mh (gU N k) k z r=gU (fun r=>if r=k then X else N r) (k+1) r):=fun r _=>by
      unfold V.mh gU;by_cases e:r=k
      ·subst e;simp [HZ.out]
      ·by_cases h:r < k
       ·simp [e,h,show r < k+1 by omega]
       ·simp [e,h,show ¬ r < k+1 by omega]
     have MV:=hide HJ.out.1;clear HJ;go_wp2_with fail;go_roundw
     case rel=>exact ⟨k+1,fun r=>if r=k then X else N r,ao',cap',acc',by omega,rfl,by go_num,MV.out.congr Bf.out,px.out,Aw.out⟩
     case measure=>simp [intOf];omega
  ·obtain rfl:k=16:=by omega
   have HV:Hid (V.Src w3 (some ⟨w.heap.size+1+1,0,none⟩) 16 16 ((List.range 16).map (gU N 16))):=⟨by simp,fun h=>(by cases h),fun ad h t ht=>by
    obtain rfl:=Option.some.inj h;rw [Addr.add_lit,Nat.zero_add,HI.out.1.v.cell t ht]
    simp [List.getD,ht]⟩
   have HE:Hid (V.aL (V.at' ((List.range 16).map (gU N 16)))=V.aL (fun r=>ar (N r))):=xO (fun r hr=>by
    have hb:=jP (HI.out.2.1 r hr).1;unfold V.at' V.eI;rw [if_pos hr];simp [List.getD,hr,gU]
    omega)
   obtain ⟨m,Hm⟩:∃ m,Hid (acc.length=m):=⟨_,rfl⟩;rw [Hm.out];go_wp2_with fail;refine (V.wg _ _ _ _ _ HV.out).mono ?_;rintro e w5 ⟨vo,vn,vc,rfl,S5,b5,f5⟩;have I5:=HI.out.1.on b5;have nq:=xM (N:=N) 16 (fun r hr=>(HI.out.2.1 r hr).1);rw [<- HI.out.2.2] at nq;obtain ⟨S6,f6⟩:=I5.o.src (by omega);rw [Hm.out] at S6;rw [HE.out] at S5;obtain ⟨p',uA⟩:∃ p':Pv,p'=⟨vo,vn,vc,ao,m,cap,⟨V.aL (fun r=>ar (N r)),acc⟩⟩:=⟨_,rfl⟩
   have s1:(stP (.pointer (some ⟨w.heap.size+1,0,none⟩)) (.agg #[.slice vo vn vc,.slice ao m cap])).run Tryz.prog w5 = .ok () (w5.setRow (w.heap.size+1) (PC p')):=by
    have:=qQ (p':=p') I5.p;rw [uA] at this ⊢;exact this
   have HP:Hid (aA (w5.setRow (w.heap.size+1) (PC p')) (w.heap.size+1) p'):=setRow_heap _ _ _ _ _ _ I5.p;have h3:=HI.out.1.o.hB
   have HQ:Hid (am (w5.setRow (w.heap.size+1) (PC p')) p'/\du w.heap.size p'/\Below w.heap.size w (w5.setRow (w.heap.size+1) (PC p'))/\af (fun r=>(F r).L) p'.P):=by
    refine ⟨⟨?_,?_,?_⟩,⟨?_,?_⟩,zh I5.o.below (by omega),N,HI.out.2.1,?_⟩
    ·rw [uA];exact S5.off (fun ad h=>setRow_other _ _ _ _ (fun e=>by have:=f5 ad h;omega))
    ·rw [uA];exact S6.off (fun ad h=>setRow_other _ _ _ _ (fun e=>by have:=f6 ad h;omega))
    ·rw [uA];have:=S5.1;rw [V.zR] at this;have ui:=V.vI (fun r=>ar (N r));show vn <= _;omega
    ·rw [uA];exact fun ad h=>by have:=f5 ad h;omega
    ·rw [uA];exact fun ad h=>by have:=f6 ad h;omega
    ·rw [uA];show (⟨_,acc⟩:Pst)=_;rw [HI.out.2.2];rfl
   clear S5 S6 f5 f6 nq h3 I5 b5 uA;go_wp2_with fail;exact bodyPost_ret (v:=PV p') (eS Tryz.results102 rfl HP.out) rfl ⟨p',rfl,HQ.out⟩
end
end Go.Proofs.YtjffpimfngdggaaGreat
