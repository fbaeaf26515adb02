/- PCa PNm QRn -/
import Derived.Test.YtaphmhbmhcahaabGreatTk
import Derived.Test.YtaphmhbmhcahaabGreatSn06
import Derived.Test.YtaphmhbmhcahaabGreatSn07
import Derived.Test.YtaphmhbmhcahaabGreatSn05
set_option maxRecDepth 100000
set_option maxHeartbeats 4000000
namespace Go.Proofs.YtaphmhbmhcahaabGreat
section
open Go.RowKit
attribute [local go_sem ↓] ldP_eq stP_eq ldA_eq stA_eq ldR_eq stR_eq
attribute [local go_sem] zeros_SA cells_SAv zero_PC cells_PV zero_RC cells_RV fold_PC fold_RC PC_size RC_size V.zeros_VC zero_SC build_SC cells_SV fold_SC SC_size
theorem build_PC (vo:Option Addr) (vn vc:Nat) (co:Option Addr) (cn cc:Nat):((PC pv0).setIfInBounds 0 (.slice vo vn vc)).setIfInBounds 1 (.slice co cn cc)=#[.slice vo vn vc,.slice co cn cc]:=rfl
attribute [local go_sem] build_PC
structure CInv (w W:World) (F:Nat -> Sl) (f:Nat -> Int) (ao:Option Addr) (cap:Nat) (acc:List Sn):Prop where
 s:Sets W w.heap.size F
 p:PBox W (w.heap.size+1) pv0
 v:V.Arr W (w.heap.size+1+1) 106 f
 o:OwnS w.heap.size (w.heap.size+3) w W ao cap acc
theorem CInv.on {w W W':World} {F:Nat -> Sl} {f:Nat -> Int} {ao:Option Addr} {cap:Nat} {acc:List Sn} (I:CInv w W F f ao cap acc) (hb:Below W.heap.size W W'):CInv w W' F f ao cap acc:=
 ⟨I.s.below hb,I.p.below hb,I.v.below hb,I.o.later hb⟩
theorem CInv.push {w W W':World} {F:Nat -> Sl} {f:Nat -> Int} {ao ao':Option Addr} {cap cap':Nat} {acc acc':List Sn} (I:CInv w W F f ao cap acc) (O:OwnS w.heap.size (w.heap.size+3) w W' ao' cap' acc')
  {g:Nat} (hk:∀ k,k < W.heap.size -> (Value.slice ao acc.length cap).ownBlock≠some k -> W'.heap[k]? = W.heap[k]? /\ g≠k):CInv w W' F f ao' cap' acc':=by
 have hB:=I.o.hB;have key:∀ k,k < w.heap.size+3 -> W'.heap[k]? = W.heap[k]?:=fun k hlt=>(hk k (by omega) (fun e=>by have:=(I.o.own.lt k e).1;omega)).1;exact ⟨(key _ (by omega)).trans I.s,(key _ (by omega)).trans I.p,(key _ (by omega)).trans I.v,O⟩
theorem CInv.vset {w W:World} {F:Nat -> Sl} {f:Nat -> Int} {ao:Option Addr} {cap:Nat} {acc:List Sn} (I:CInv w W F f ao cap acc) (k:Nat) (z:Int):CInv w (W.setCell ⟨w.heap.size+1+1,k,none⟩ (.int .i64 z)) F (V.fset f k z) ao cap acc:=by
 have other:∀ q,q≠w.heap.size+1+1 -> (W.setCell ⟨w.heap.size+1+1,k,none⟩ (.int .i64 z)).heap[q]? = W.heap[q]?:=fun q hq=>by
  simp [World.setCell,Array.getElem?_modify,show ¬ w.heap.size+1+1=q by omega]
 refine ⟨(other _ (by omega)).trans I.s,(other _ (by omega)).trans I.p,I.v.set k z,⟨⟨I.o.own.1,?_⟩,V.below_setCell I.o.below (by simp;omega),by have:=I.o.hB;simp [World.setCell];omega,I.o.hB0⟩⟩;rcases I.o.own.2 with h | ⟨g,cap2,cur,hv,hbg,hgg,r⟩
 ·exact Or.inl h
 ·exact Or.inr ⟨g,cap2,cur,hv,hbg,(other g (by omega)).trans hgg,r⟩
theorem CInv.congr {w W:World} {F:Nat -> Sl} {f f':Nat -> Int} {ao:Option Addr} {cap:Nat} {acc:List Sn} (I:CInv w W F f ao cap acc) (h:∀ r,r < 16 -> f r=f' r):CInv w W F f' ao cap acc:=⟨I.s,I.p,I.v.congr h,I.o⟩
def leads (N:Nat -> List Rn) (k:Nat):Nat -> Int:=fun r=>if r < k then leadOf (N r) else 0
theorem tag_take {L:List Rn} {k j:Nat} {x:Rn} (h:L.take (j+1)=L.take j++[x]):tag k (L.take (j+1))=tag k (L.take j)++[⟨(k:Int),x.lo,x.hi⟩]:=by rw [h];simp [tag]

theorem canonical_any (F:Nat -> Sl) (w:World) (hF:∀ r,r < 16 -> RSrc w (F r).ao (F r).n (F r).cap (F r).L) :
  Calls Tryz.prog 31 #[SAv F] w fun e w'=>GivesP w w' e (CanonOf (fun r=>(F r).L)):=by
 have HF:=hide hF;clear hF;go_enter Tryz.func31,Tryz.ntmps31;go_wp2_with fail;go_loopw [4,10] (fun c i wr=>∃ (k:Nat) (N:Nat -> List Rn) (ao:Option Addr) (cap:Nat) (acc:List Sn),k <= 16/\c = .slice ao acc.length cap/\i = .int .i64 k/\Hid (CInv w wr F (leads N k) ao cap acc/\(∀ r,r < k -> NormOf (F r).L (N r))/\acc=cloudN N k)) (fun _ i _=>16 - (intOf i).toNat)
 case atStart =>
  have b1:=below_new w (.cells (SA F) 69);have b2:=below_new (w.alloc (.cells (SA F) 69)) (.cells (PC pv0) 26);have b3:=below_new ((w.alloc (.cells (SA F) 69)).alloc (.cells (PC pv0) 26)) (.cells (V.VC fun _=>0) 106);have p1:=pbox_new (w.alloc (.cells (SA F) 69)) pv0;have v1:=V.arr_new ((w.alloc (.cells (SA F) 69)).alloc (.cells (PC pv0) 26)) 106 (fun _=>0);simp only [World.size_alloc] at p1 v1;refine ⟨0,fun _=>[],none,0,[],Nat.zero_le _,rfl,rfl,⟨((sets_new w F).below b2).below b3,p1.below b3,v1.congr (fun r _=>by simp [leads]),OwnS.nil (b1.trans ((b2.trans (b3.mono b2.size)).mono b1.size)) (by simp) (by omega)⟩,fun r h=>by omega,rfl⟩
 case round =>
  obtain ⟨k,N,ao,cap,acc,hk,rfl,rfl,HI⟩:=hrel
  rename World=>w3
  by_cases hlt:k < 16
  ·have c1:=HI.out.1.s.cell k hlt;have HSF:=hide ((HF.out k hlt).below HI.out.1.o.below);obtain ⟨sa,sn,sc,hf⟩:∃ sa sn sc,(F k).ao=sa/\(F k).n=sn/\(F k).cap=sc:=⟨_,_,_,rfl,rfl,rfl⟩;rw [hf.1,hf.2.1,hf.2.2] at c1 HSF;clear hf;go_wp2_with fail;refine (lead_any sa sn sc (F k).L _ HSF.out).mono ?_;rintro e w4 ⟨z,a1,n1,c1',L,rfl,S4,hL,b4,f4⟩;obtain ⟨X,hX,hz,hLX⟩:=hL.norm;have HX:=hide hX;have HZ:=hide hz;have HLX:=hide hLX;have HI4:=hide (HI.out.1.on b4);have HBS:=hide b4.size;have HA:=hide HI.out.2;have HS4:=hide S4;have hbg:=S4.big;have HLL:Hid (L.length=n1):=S4.len;have d1:=HI4.out.v.cell k hlt;have d2:=HI4.out.v.frozen k;have HFR:Hid (∀ ad,a1=some ad -> w3.heap.size <= ad.block):=f4;have HW3:=hide HI.out.1.o.hB;have HOB:Hid (∀ q,(Value.slice ao acc.length cap).ownBlock=some q -> q < w3.heap.size):=fun q h=>(HI.out.1.o.own.lt q h).2
   have HLF:=hide hL.1;clear hX hz hLX hL S4 b4 f4 HI HSF c1;go_wp2_with fail;have HI5:=hide ((HI4.out.vset k z))
   have HS5:Hid (RSrc (w4.setCell ⟨w.heap.size+1+1,k,none⟩ (.int .i64 z)) a1 n1 c1' L):=rsrc_off HS4.out (fun ad h=>by
    have h1:=HFR.out ad h;have h2:=HW3.out
    simp [World.setCell,Array.getElem?_modify,show ¬ w.heap.size+1+1=ad.block by omega])
   have HZ5:Hid (w3.heap.size <= (w4.setCell ⟨w.heap.size+1+1,k,none⟩ (.int .i64 z)).heap.size):=by
    have:=HI4.out.o.hB
    show _ <= _
    simp only [World.setCell,Array.size_modify];exact HBS.out
   generalize (w4.setCell ⟨w.heap.size+1+1,k,none⟩ (.int .i64 z))=w5 at HI5 HS5 HZ5 ⊢;go_loopw [4,25] (fun c i wr=>∃ (j:Nat) (ao':Option Addr) (cap':Nat) (acc':List Sn),j <= n1/\c = .slice ao' acc'.length cap'/\i = .int .i64 j/\Hid (CInv w wr F (V.fset (leads N k) k z) ao' cap' acc'/\acc'=acc++tag k (L.take j)/\RSrc wr a1 n1 c1' L/\(∀ ad,a1=some ad -> (Value.slice ao' acc'.length cap').ownBlock≠some ad.block))) (fun _ i _=>n1 - (intOf i).toNat)
   case atStart =>
    exact ⟨0,ao,cap,acc,Nat.zero_le _,rfl,rfl,HI5.out,by simp [tag],HS5.out,fun ad h e=>by have:=HOB.out _ e;have:=HFR.out ad h;omega⟩
   case round =>
    obtain ⟨j,ao',cap',acc',hj,rfl,rfl,HJ⟩:=hrel
    rename World=>w6
    clear HI4 HI5 HS5 HS4 d1 d2;by_cases hjl:j < n1
    ·obtain ⟨ad,rfl,A0⟩:=HJ.out.2.2.1.at j hjl;have hld:=run_ldR A0;obtain ⟨x,Hx⟩:∃ x,Hid (L.getD j rn0=x):=⟨_,rfl⟩;rw [Hx.out] at hld
     have hjL:j < L.length:=by rw [HLL.out];exact hjl
     have HT:Hid (L.take (j+1)=L.take j++[x]):=by show _=_;rw [List.take_succ_eq_append_getElem hjL,<- Hx.out];simp [List.getD,hjL]
     obtain ⟨w7,hst,XB,b7,z7⟩:=made w6 x w6.heap.size rfl;have x0:=XB.at.c0;have x1:w7.cell? ⟨w6.heap.size,1,none⟩=some (.int .i64 x.hi):=XB.at.c1;have HJ7:=hide (HJ.out.1.on b7);have HL7:=hide (HJ.out.2.2.1.below b7);have HAB:=hide HJ.out.2.2.2;have HE:=hide HJ.out.2.1
     have HAL:Hid (acc'.length < 5864062014805):=by
      have h1:=cloudN_len (N:=N) k (fun r hr=>(HA.out.1 r hr).1);have h2:=form_small (Int.le_refl _) HLF.out;have h3:=HA.out.2;have h4:=HJ.out.2.1
      show _ < _
      rw [h4,List.length_append,tag_length,h3,List.length_take];omega
     obtain ⟨m,Hm⟩:∃ m,Hid (acc'.length=m):=⟨_,rfl⟩;rw [Hm.out];have HBZ:=hide (World.block_lt_of_cell? _ _ (HL7.out.cell ad rfl 0 (by omega)).c0);clear XB b7 z7 A0 HJ;go_wp2_with (at_builtin;refine HJ7.out.o.append ⟨(k:Int),x.lo,x.hi⟩ _ rfl HAL.out rfl (.tmp 29) (.tmp 36) rfl m Hm.out rfl rfl ?_;intro g8 c8 w8 O8 h8);go_roundw
     case rel =>
      refine ⟨j+1,some ⟨g8,0,none⟩,c8,acc'++[⟨(k:Int),x.lo,x.hi⟩],by omega,by rw [List.length_append,Hm.out];rfl,by go_num,HJ7.out.push O8 h8,by rw [tag_take HT.out,<- List.append_assoc,<- HE.out],?_,?_⟩
      ·exact rsrc_off HL7.out (fun ad' h=>(h8 _ (by obtain rfl:=Option.some.inj h;have:=HBZ.out;rw [block_add] at this;exact this) (HAB.out ad' h)).1)
      ·intro ad' h e;have e':g8=ad'.block:=Option.some.inj e;exact (h8 _ (by obtain rfl:=Option.some.inj h;have:=HBZ.out;rw [block_add] at this;exact this) (HAB.out ad' h)).2 e'
     case measure=>simp [intOf];omega
    ·obtain rfl:j=n1:=by omega
     have HNN:Hid (∀ r,r < k+1 -> NormOf (F r).L ((fun r=>if r=k then X else N r) r)):=fun r hr=>by
      dsimp only;by_cases e:r=k
      ·subst e;rw [if_pos rfl];exact HX.out
      ·rw [if_neg e];exact HA.out.1 r (by omega)
     have HCN:Hid (acc'=cloudN (fun r=>if r=k then X else N r) (k+1)):=by
      show _=_
      have h:cloudN (fun r=>if r=k then X else N r) k=cloudN N k:=cloudN_congr k (fun r hr=>by simp;omega);rw [HJ.out.2.1,HA.out.2,cloudN,h,<- HLL.out,List.take_length,HLX.out];simp
     have HFS:Hid (∀ r,r < 16 -> V.fset (leads N k) k z r=leads (fun r=>if r=k then X else N r) (k+1) r):=fun r _=>by
      unfold V.fset leads;by_cases e:r=k
      ·subst e;simp [HZ.out]
      ·by_cases h:r < k
       ·simp [e,h,show r < k+1 by omega]
       ·simp [e,h,show ¬ r < k+1 by omega]
     have HJ1:=hide HJ.out.1;clear HJ;go_wp2_with fail;go_roundw
     case rel=>exact ⟨k+1,fun r=>if r=k then X else N r,ao',cap',acc',by omega,rfl,by go_num,HJ1.out.congr HFS.out,HNN.out,HCN.out⟩
     case measure=>simp [intOf];omega
  ·obtain rfl:k=16:=by omega
   have HV:Hid (V.Src w3 (some ⟨w.heap.size+1+1,0,none⟩) 16 16 ((List.range 16).map (leads N 16))):=⟨by simp,fun h=>(by cases h),fun ad h t ht=>by
    obtain rfl:=Option.some.inj h;rw [Addr.add_lit,Nat.zero_add,HI.out.1.v.cell t ht]
    simp [List.getD,ht]⟩
   have HE:Hid (V.short (V.at' ((List.range 16).map (leads N 16)))=V.short (fun r=>leadOf (N r))):=short_congr (fun r hr=>by
    have hb:=leadOf_bd (HI.out.2.1 r hr).1;unfold V.at' V.clamp;rw [if_pos hr];simp [List.getD,hr,leads]
    omega)
   obtain ⟨m,Hm⟩:∃ m,Hid (acc.length=m):=⟨_,rfl⟩;rw [Hm.out];go_wp2_with fail;refine (V.norm_new _ _ _ _ _ HV.out).mono ?_;rintro e w5 ⟨vo,vn,vc,rfl,S5,b5,f5⟩;have I5:=HI.out.1.on b5;have hal:=cloudN_len (N:=N) 16 (fun r hr=>(HI.out.2.1 r hr).1);rw [<- HI.out.2.2] at hal;obtain ⟨S6,f6⟩:=I5.o.src (by omega);rw [Hm.out] at S6;rw [HE.out] at S5;obtain ⟨p',Hp'⟩:∃ p':Pv,p'=⟨vo,vn,vc,ao,m,cap,⟨V.short (fun r=>leadOf (N r)),acc⟩⟩:=⟨_,rfl⟩
   have s1:(stP (.pointer (some ⟨w.heap.size+1,0,none⟩)) (.agg #[.slice vo vn vc,.slice ao m cap])).run Tryz.prog w5 = .ok () (w5.setRow (w.heap.size+1) (PC p')):=by
    have:=run_stP (p':=p') I5.p;rw [Hp'] at this ⊢;exact this
   have HP:Hid (PBox (w5.setRow (w.heap.size+1) (PC p')) (w.heap.size+1) p'):=setRow_heap _ _ _ _ _ _ I5.p;have h3:=HI.out.1.o.hB
   have HQ:Hid (PSrc (w5.setRow (w.heap.size+1) (PC p')) p'/\PNew w.heap.size p'/\Below w.heap.size w (w5.setRow (w.heap.size+1) (PC p'))/\CanonOf (fun r=>(F r).L) p'.P):=by
    refine ⟨⟨?_,?_,?_⟩,⟨?_,?_⟩,below_setRow I5.o.below (by omega),N,HI.out.2.1,?_⟩
    ·rw [Hp'];exact S5.off (fun ad h=>setRow_other _ _ _ _ (fun e=>by have:=f5 ad h;omega))
    ·rw [Hp'];exact S6.off (fun ad h=>setRow_other _ _ _ _ (fun e=>by have:=f6 ad h;omega))
    ·rw [Hp'];have:=S5.1;rw [V.short_length] at this;have h16:=V.top_le (fun r=>leadOf (N r));show vn <= _;omega
    ·rw [Hp'];exact fun ad h=>by have:=f5 ad h;omega
    ·rw [Hp'];exact fun ad h=>by have:=f6 ad h;omega
    ·rw [Hp'];show (⟨_,acc⟩:Pst)=_;rw [HI.out.2.2];rfl
   clear S5 S6 f5 f6 hal h3 I5 b5 Hp';go_wp2_with fail;exact bodyPost_ret (v:=PV p') (resP Tryz.results31 rfl HP.out) rfl ⟨p',rfl,HQ.out⟩
end
section
open Go.RowKit
attribute [local go_sem ↓] ldP_eq stP_eq ldA_eq stA_eq
attribute [local go_sem] zeros_SA cells_SAv zero_PC cells_PV fold_PC PC_size
theorem fold_PC1 (a:Pv):Array.foldl (fun cs x=>cs.setIfInBounds x.snd x.fst) #[(PC pv0)[0]!,(PC pv0)[1]!] (PC a).zipIdx 0 2=PC a:=rfl
attribute [local go_sem] fold_PC1
theorem prow_one (W:World) (a:Pv) (hS:PSrc W a):PRow (W.alloc (.cells (PC a) 26)) (some ⟨W.heap.size,0,none⟩) 1 [a]:=
 prow_lit _ _ [a] (PC a) (by simp [pcs]) _ 1 rfl (heap_alloc_new W _) (fun p h=>by obtain rfl:=List.mem_singleton.1 h;exact hS.below (below_new _ _))
theorem wt_one {W:World} {a:Pv} (hS:PSrc W a):wt [a] <= 8796093022207:=by have h1:=hS.cloud.big;have h2:=hS.cloud.len;simp only [wt];omega
theorem pastJoin_any (ao:Option Addr) (q cap:Nat) (X:List Pv) (w:World) (hS:PRow w ao q X) (hN:wt X <= 8796093022207) (hq:q <= 8796093022207) :
  Calls Tryz.prog 13 #[.slice ao q cap] w fun e w'=>GivesP w w' e (CanonOf (runsOf X)):=by
 have HS:=hide hS;have HN:=hide hN;clear hS hN;have b0:=below_new w (.cells (PC pv0) 26);have HB0:=hide b0;have HP0:=hide (pbox_new w pv0);clear b0;go_enter Tryz.func13,Tryz.ntmps13;go_wp2_with fail;refine (setsOf_any ao q cap X _ (HS.out.below HB0.out) HN.out hq).mono ?_;rintro e w1 ⟨F,rfl,⟨S1,hF,_,_⟩,b1⟩;have HF:=hide hF;have HB1:=hide b1;have HS1:=hide S1;clear b1 S1 hF;go_wp2_with fail;refine (canonical_any F _ HS1.out).mono ?_;rintro e w2 ⟨p,rfl,S2,n2,b2,c2⟩;obtain ⟨s1,e1,e2,e3,e4⟩:=past_end (w:=w) ((HP0.out.below HB1.out).below b2) S2 (n2.mono (by have:=HB1.out.size;simp at this;omega)) (HB0.out.trans ((HB1.out.trans (b2.mono HB1.out.size)).mono HB0.out.size)) (Nat.le_refl _);have HE1:=hide e1;have HE2:Hid (GivesP w (w2.setRow w.heap.size (PC p)) (.returned (PV p)) (CanonOf (runsOf X))):=⟨p,rfl,e2,e3,e4,c2.congr HF.out⟩
 clear S2 n2 b2 c2 e1 e2 e3 e4;go_wp2_with fail;exact bodyPost_ret (v:=PV p) (resP Tryz.results13 rfl HE1.out) rfl HE2.out
theorem pastNorm_any (a:Pv) (w:World) (hS:PSrc w a) :
  Calls Tryz.prog 72 #[PV a] w fun e w'=>GivesP w w' e (CanonOf (runsAt a.P)):=by
 have b0:=below_new w (.cells (PC a) 26);have b1:=below_new (w.alloc (.cells (PC a) 26)) (.cells (PC pv0) 26);have hp1:=pbox_new (w.alloc (.cells (PC a) 26)) pv0
 have l1:=run_ldP ((pbox_new w a).below b1).at
 rw [World.size_alloc] at hp1;have HB1:=hide (b0.trans (b1.mono b0.size));have HS:=hide (hS.below HB1.out);have HP1:=hide hp1;have HW:=hide (wt_one hS);clear hS b0 b1 hp1;go_enter Tryz.func72,Tryz.ntmps72;go_wp2_with fail;have R:=prow_one _ a HS.out;have bl:=below_new ((w.alloc (.cells (PC a) 26)).alloc (.cells (PC pv0) 26)) (.cells (PC a) 26);simp only [World.size_alloc] at R;refine (setsOf_any _ 1 1 [a] _ R HW.out (by omega)).mono ?_;rintro e w1 ⟨F,rfl,⟨S1,hF,_,_⟩,b2⟩;have HF:=hide hF;have HB2:=hide (bl.trans (b2.mono bl.size));have HS1:=hide S1;clear b2 S1 hF R bl;go_wp2_with fail;refine (canonical_any F _ HS1.out).mono ?_;rintro e w2 ⟨p,rfl,S2,n2,b2,c2⟩;obtain ⟨s1,e1,e2,e3,e4⟩:=past_end (w:=w) ((HP1.out.below HB2.out).below b2) S2 (n2.mono (by have:=HB2.out.size;simp at this;omega)) (HB1.out.trans ((HB2.out.trans (b2.mono HB2.out.size)).mono HB1.out.size)) (by omega)
 have HE1:=hide e1;have HE2:Hid (GivesP w (w2.setRow (w.heap.size+1) (PC p)) (.returned (PV p)) (CanonOf (runsAt a.P))):=⟨p,rfl,e2,e3,e4,c2.congr (fun r hr=>by rw [HF.out r hr,runsOf_one])⟩;clear S2 n2 b2 c2 e1 e2 e3 e4;go_wp2_with fail;exact bodyPost_ret (v:=PV p) (resP Tryz.results72 rfl HE1.out) rfl HE2.out
def sumZ (N:Nat -> List Rn):Nat -> Int
 | 0=>0
 | k+1=>sumZ N k+sz (N k)
def SizeP (G:Nat -> List Rn) (z:Int):Prop:=∃ N,(∀ r,r < 16 -> NormOf (G r) (N r))/\z=sumZ N 16
theorem sumZ_bd {N:Nat -> List Rn}:∀ k,(∀ r,r < k -> form 1 (N r)) -> 0 <= sumZ N k/\sumZ N k <= k * 1000000000
 | 0,_=>by simp [sumZ]
 | k+1,h=>by
  have h1:=sumZ_bd k (fun r hr=>h r (by omega));have h2:=sz_bd (h k (by omega))
  have h3:sz (N k) <= 1000000000:=by
   rcases h2.2.1 with e | e
   ·rw [e];simp [sz]
   ·omega
  rw [sumZ]
  push_cast
  omega
theorem sumZ_congr {N N':Nat -> List Rn}:∀ k,(∀ r,r < k -> N r=N' r) -> sumZ N k=sumZ N' k
 | 0,_=>rfl
 | k+1,h=>by rw [sumZ,sumZ,sumZ_congr k (fun r hr=>h r (by omega)),h k (by omega)]
theorem run_idxA (F:Nat -> Sl) (k:Nat) (hk:k < 16) (w:World):(Instr.index 69 (SAv F) (.int .i64 (k:Int))).run Tryz.prog w = .ok (.slice (F k).ao (F k).n (F k).cap) w:=by
 have h1:0 <= (k:Int)/\(k:Int) < 16:=by omega
 have h2:=SA_at F k hk
 have hagg:(isAgg 67).run Tryz.prog w = .ok false w:=by
  unfold isAgg;rw [Sem.run_bind,run_underlying Tryz.underlying67 w];rfl
 simp [Instr.index,run_underlying Tryz.underlying69,SAv,asIntOf,Result.andThen,part,hagg,h2,slv];omega
def ixA (x i:Value):Sem Value:=Instr.index 69 x i
theorem ixA_eq (x i:Value):Instr.index 69 x i=ixA x i:=rfl
attribute [local go_sem ↓] ixA_eq
theorem pastSize_any (a:Pv) (w:World) (hS:PSrc w a) :
  Calls Tryz.prog 119 #[PV a] w fun e w'=>∃ z,e = .returned (.int .i64 z)/\SizeP (runsAt a.P) z/\Below w.heap.size w w':=by
 have b0:=below_new w (.cells (PC a) 26)
 have l1:=run_ldP (pbox_new w a).at
 have HB1:=hide b0;have HS:=hide (hS.below HB1.out);have HW:=hide (wt_one hS);clear hS b0;go_enter Tryz.func119,Tryz.ntmps119;go_wp2_with fail;have R:=prow_one _ a HS.out;have bl:=below_new (w.alloc (.cells (PC a) 26)) (.cells (PC a) 26);simp only [World.size_alloc] at R;refine (setsOf_any _ 1 1 [a] _ R HW.out (by omega)).mono ?_;rintro e w1 ⟨F,rfl,⟨S1,hF,_,_⟩,b2⟩;have HF:=hide hF;have HB2:=hide (HB1.out.trans ((bl.trans (b2.mono bl.size)).mono HB1.out.size));have HS1:=hide S1;clear b2 S1 hF R bl;go_wp2_with fail;go_loopw [3,9] (fun s i wr=>∃ (k:Nat) (N:Nat -> List Rn),k <= 16/\s = .int .i64 (sumZ N k)/\i = .int .i64 k/\Hid (∀ r,r < k -> NormOf (F r).L (N r))/\Hid (Below w1.heap.size w1 wr)) (fun _ i _=>16 - (intOf i).toNat)
 case atStart=>exact ⟨0,fun _=>[],Nat.zero_le _,rfl,rfl,fun r h=>by omega,Below.refl _ _⟩
 case round =>
  obtain ⟨k,N,hk,rfl,rfl,HN,HB⟩:=hrel
  rename World=>w3
  have hbd:=sumZ_bd (N:=N) k (fun r hr=>(HN.out r hr).1);by_cases hlt:k < 16
  ·have c1:(ixA (SAv F) (.int .i64 (k:Int))).run Tryz.prog w3=_:=run_idxA F k hlt w3;have HSF:=hide ((HS1.out k hlt).below HB.out);obtain ⟨sa,sn,sc,hf⟩:∃ sa sn sc,(F k).ao=sa/\(F k).n=sn/\(F k).cap=sc:=⟨_,_,_,rfl,rfl,rfl⟩;rw [hf.1,hf.2.1,hf.2.2] at c1 HSF;clear hf;go_wp2_with fail;refine (size_any sa sn sc (F k).L _ HSF.out).mono ?_;rintro e w4 ⟨z,rfl,hz,b4⟩;obtain ⟨R,hR,hzR⟩:=hz;have h2:=sz_bd hR.1
   have h3:0 <= z/\z <= 1000000000:=by
    rw [hzR];refine ⟨h2.1,?_⟩;rcases h2.2.1 with e | e
    ·rw [e];simp [sz]
    ·omega
   have HNN:Hid (∀ r,r < k+1 -> NormOf (F r).L ((fun r=>if r=k then R else N r) r)):=fun r hr=>by
    dsimp only;by_cases e:r=k
    ·subst e;rw [if_pos rfl];exact hR
    ·rw [if_neg e];exact HN.out r (by omega)
   have HSZ:Hid (sumZ N k+z=sumZ (fun r=>if r=k then R else N r) (k+1)):=by
    have h:sumZ (fun r=>if r=k then R else N r) k=sumZ N k:=sumZ_congr k (fun r hr=>by simp;omega)
    show _=_
    rw [sumZ,h,hzR];simp
   have HB4:=wTr HB b4;obtain ⟨y,Hy⟩:∃ y,Hid (sumZ N k=y):=⟨_,rfl⟩;rw [Hy.out] at hbd HSZ ⊢;clear hR hzR h2 b4;go_wp2_with fail;go_roundw
   case rel=>exact ⟨k+1,fun r=>if r=k then R else N r,by omega,by rw [<- HSZ.out],by go_num,HNN.out,HB4.out⟩
   case measure=>simp [intOf];omega
  ·obtain rfl:k=16:=by omega
   have HR:Hid (SizeP (runsAt a.P) (sumZ N 16)/\Below w.heap.size w w3):=⟨⟨N,fun r hr=>by rw [<- runsOf_one,<- HF.out r hr];exact HN.out r hr,rfl⟩,HB2.out.trans (HB.out.mono HB2.out.size)⟩;go_wp2_with fail;go_ret;exact ⟨_,rfl,HR.out⟩
theorem SizeP.zero {G:Nat -> List Rn} {z:Int} (h:SizeP G z):z=0↔∀ r,r < 16 -> ∀ n,¬ mem (G r) n:=by
 obtain ⟨N,hN,rfl⟩:=h
 have key:∀ k,k <= 16 -> (sumZ N k=0↔∀ r,r < k -> N r=[]):=by
  intro k
  induction k with
  | zero=>intro _;exact ⟨fun _ r h=>by omega,fun _=>rfl⟩
  | succ k ih =>
   intro hk;have h1:=sumZ_bd (N:=N) k (fun r hr=>(hN r (by omega)).1);have h2:=sz_bd (hN k (by omega)).1;rw [sumZ];constructor
   ·intro h r hr;by_cases e:r=k
    ·subst e;exact h2.2.2 (by omega)
    ·exact (ih (by omega)).1 (by omega) r (by omega)
   ·intro h;rw [(ih (by omega)).2 (fun r hr=>h r (by omega)),h k (by omega)];rfl
 rw [key 16 (by omega)];constructor
 ·intro h r hr n hm;have:=((hN r hr).2 n).2 hm;rw [h r hr] at this;exact mem_nil n this
 ·intro h r hr;exact form_empty (Int.le_refl _) (hN r hr).1 (fun n hm=>h r hr n (((hN r hr).2 n).1 hm))
theorem pastEmpty_any (a:Pv) (w:World) (hS:PSrc w a) :
  Calls Tryz.prog 78 #[PV a] w fun e w'=>∃ b,e = .returned (.bool b)/\(b=true↔∀ r,r < 16 -> ∀ n,¬ mem (runsAt a.P r) n)/\Below w.heap.size w w':=by
 have b0:=below_new w (.cells (PC a) 26)
 have l1:=run_ldP (pbox_new w a).at
 have HB1:=hide b0;have HS:=hide (hS.below HB1.out);clear hS b0;go_enter Tryz.func78,Tryz.ntmps78;go_wp2_with fail;refine (pastSize_any a _ HS.out).mono ?_;rintro e w2 ⟨z,rfl,hz,b2⟩
 have HZ:Hid ((z == 0)=true↔∀ r,r < 16 -> ∀ n,¬ mem (runsAt a.P r) n):=by rw [<- hz.zero];simp [Hid]
 have HB2:=wTr HB1 b2;clear hz b2;go_wp2_with fail;go_ret;exact ⟨_,rfl,HZ.out,HB2.out⟩
end
section
open Go.RowKit
attribute [local go_sem ↓] ldP_eq stP_eq ldJ_eq stJ_eq
attribute [local go_sem] zeros_JA cells_JAv zero_PC cells_PV fold_PC PC_size fold_PC1
theorem one_any (a:Pv) (w:World) (hS:PSrc w a):Calls Tryz.prog 90 #[PV a] w fun e w'=>GivesSet w w' e (runsAt a.P):=by
 have b1:=below_new w (.cells (PC a) 26);have b2:=below_new (w.alloc (.cells (PC a) 26)) (.cells (JA fun _=>si0) 132);have X2:=isets_new (w.alloc (.cells (PC a) 26)) 132 (fun _=>si0);rw [World.size_alloc] at X2;have HXA:=hide ((pbox_new w a).below b2);have HX2:=hide X2;have HBK:=hide (b1.trans (b2.mono b1.size));have HS:=hide (hS.below HBK.out);clear b1 b2 X2 hS;obtain ⟨wk,hwk⟩:∃ wk,(w.alloc (.cells (PC a) 26)).alloc (.cells (JA fun _=>si0) 132)=wk:=⟨_,rfl⟩
 have HWZ:Hid (wk.heap.size=w.heap.size+1+1):=by show _=_;rw [<- hwk];simp
 rw [hwk] at HXA HX2 HBK HS
 have l1:=run_ldP HXA.out.at
 have b3:=below_new wk (.cells (PC a) 26);have HR:=hide (prow_one wk a HS.out);have HWT:=hide (wt_one HS.out);have HB3:=wTr HBK b3;have HX3:=hide (HX2.out.below b3);clear b3;go_enter Tryz.func90,Tryz.ntmps90;go_wp2_with fail;clear hwk;refine (mean_any _ 1 1 [a] _ HR.out HWT.out (by omega)).mono ?_;rintro e w2 ⟨T,N,rfl,hT,b4⟩;have HX4:=HX3.out.below b4;have hst:=run_stJ (F':=T) HX4;have HRes:=hide (ISets.setRow (F':=T) HX4)
 have HFin:Hid (GivesSet w (w2.setRow (w.heap.size+1) (JA T)) (.returned (JAv T)) (runsAt a.P)):=by
  refine ⟨T,N,rfl,fun r hr=>?_,below_setRow (HB3.out.trans (b4.mono HB3.out.size)) (by omega)⟩;obtain ⟨h1,h2,h3⟩:=hT r hr;rw [runsOf_one] at h3;simp only [World.size_alloc] at h2;have hwz:=HWZ.out;exact ⟨src_off h1 (fun ad h=>setRow_other _ _ _ _ (fun e=>by have:=h2 ad h;omega)),fun ad h=>by have:=h2 ad h;omega,h3⟩
 clear hT b4 HX4 l1;go_wp2_with fail;exact bodyPost_ret (v:=JAv T) (resJ Tryz.results90 rfl HRes.out) rfl HFin.out
theorem canon_of {G N:Nat -> List Rn} (h:∀ r,r < 16 -> NormOf (G r) (N r)) {P:Pst} (hP:P=canonP N):CanonOf G P:=⟨N,h,hP⟩
theorem refNorm_any (a:Pv) (w:World) (hS:PSrc w a):Calls Tryz.prog 46 #[PV a] w fun e w'=>GivesP w w' e (CanonOf (runsAt a.P)):=by
 have b1:=below_new w (.cells (PC a) 26);have b2:=below_new (w.alloc (.cells (PC a) 26)) (.cells (PC pv0) 26);have X2:=pbox_new (w.alloc (.cells (PC a) 26)) pv0;rw [World.size_alloc] at X2;have HXA:=hide ((pbox_new w a).below b2);have HX2:=hide X2;have HBK:=hide (b1.trans (b2.mono b1.size));have HS:=hide (hS.below HBK.out);clear b1 b2 X2 hS;obtain ⟨wk,hwk⟩:∃ wk,(w.alloc (.cells (PC a) 26)).alloc (.cells (PC pv0) 26)=wk:=⟨_,rfl⟩
 have HWZ:Hid (wk.heap.size=w.heap.size+1+1):=by show _=_;rw [<- hwk];simp
 rw [hwk] at HXA HX2 HBK HS
 have l1:=run_ldP HXA.out.at
 go_enter Tryz.func46,Tryz.ntmps46;go_wp2_with fail;clear hwk;refine (one_any a _ HS.out).mono ?_;rintro e w2 ⟨T,N,rfl,hT,b4⟩;have HT:=hide hT;have HB4:=hide b4;have HX4:=hide (HX2.out.below b4);clear hT b4 l1;go_wp2_with fail;refine (refForm_any T N _ (fun r hr=>⟨(HT.out r hr).1,(HT.out r hr).2.2.1⟩)).mono ?_;rintro e w3 ⟨p,rfl,S3,n3,b5,c5⟩;have hwz:=HWZ.out;have hsz:=HB4.out.size;obtain ⟨e1,e2,e3,e4,e5⟩:=past_end (w:=w) (HX4.out.below b5) S3 (n3.mono (by omega)) (HBK.out.trans ((HB4.out.mono HBK.out.size).trans (b5.mono (Nat.le_trans HBK.out.size hsz)))) (by omega);have HRes:=hide e2;have HFin:Hid (GivesP w _ (.returned (PV p)) (CanonOf (runsAt a.P))):=⟨p,rfl,e3,e4,e5,canon_of (fun r hr=>(HT.out r hr).2.2) c5⟩;clear S3 n3 b5 c5 e2 e3 e4 e5 hwz hsz;go_wp2_with fail;exact bodyPost_ret (v:=PV p) (resP Tryz.results46 rfl HRes.out) rfl HFin.out
end
end Go.Proofs.YtaphmhbmhcahaabGreat
