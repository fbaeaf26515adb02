import Derived.Test.YtjffpimfngdggaaGreatFf37
import Derived.Maps.AppendAt
set_option maxRecDepth 100000
set_option maxHeartbeats 6400000
namespace Go.Proofs.YtjffpimfngdggaaGreat
section
open Go.RowKit
theorem eM.runOne {B0 B:Nat} {w W:World} {ao:Option Addr} {cap:Nat} {acc:List FtR} (O:eM B0 B w W ao cap acc) (e:FtR) (n:Nat) (hn:acc.length=n) (cJ:n < 3518437208883) :
  ∃ g c' W',(Builtin.append_ #[55,55] 55 #[.slice ao n cap,.slice (some ⟨W.heap.size,0,none⟩) 1 1]).run Tryz.prog (W.alloc (.cells (FtC e) 52)) = .ok (.slice (some ⟨g,0,none⟩) (n+1) c') W'/\eM B0 B w W' (some ⟨g,0,none⟩) c' (acc++[e])/\W.heap.size <= W'.heap.size:=by
 subst hn;obtain ⟨i0,hi,cY,dw,eI⟩:=info_parts pJ;have hB:=O.hB;have hB0:=O.hB0;have O1:=O.later (ze W (.cells (FtC e) 52))
 obtain ⟨v',W2,dM,a7,aC,_,gS⟩:=run_append_own_at (P:=Tryz.prog) (W.alloc (.cells (FtC e) 52)) B 55 55 52 i0 (.agg #[.int .i64 0,.int .i64 0,.int .i64 0,.int .i64 0]) 4 32 Tryz.underlying55 hi cY dw eI rfl (by decide) (.slice ao acc.length cap) acc.length (fcs acc) O1.own ⟨W.heap.size,0,none⟩ 1 1 (fcs [e]) (by rw [zd9];rfl) (fun j u hj=>by
  rw [Addr.add_lit,Nat.zero_add,World.cell?_alloc_new];rw [zct] at hj
  simpa using hj) (by rw [zct];exact zcK e) (by unfold maxLen;omega) (by omega) (by simp;omega)
 have dH:∀ k,(Value.slice ao acc.length cap).ownBlock=some k -> B <= k:=fun k hk=>(O.own.lt k hk).1;have dE:=aC.size;have ut:Below B0 w W2:=O1.below.grown aC (by have:=O1.hB;omega) (fun k hk=>by have:=dH k hk;omega);rw [World.size_alloc] at dE;rcases a7.2 with ⟨h0,fV⟩ | ⟨g,cap2,cur,hv,r⟩
 ·omega
 ·subst hv;refine ⟨g,cap2,W2,dM,⟨?_,ut,by omega,hB0⟩,by omega⟩;rw [List.length_append,bu];exact a7
def uT (f:Fc) (s:ByteArray) (L:List FtR) (er:Int):Prop:=(¬ ar f/\er=1/\L=[])∨(ar f/\K.eQ s.data.toList=false/\er=5/\L=[])∨(ar f/\K.eQ s.data.toList=true/\er=0/\L=(f.es.filter (fun e=>K.eqS e.sku s)).map (ftE f))
theorem uT.one {f:Fc} {s:ByteArray} {L M:List FtR} {a b:Int} (h:uT f s L a) (k:uT f s M b):L=M/\a=b:=by
 rcases h with ⟨h1,rfl,rfl⟩ | ⟨h1,h2,rfl,rfl⟩ | ⟨h1,h2,rfl,rfl⟩ <;> rcases k with ⟨k1,rfl,rfl⟩ | ⟨k1,k2,rfl,rfl⟩ | ⟨k1,k2,rfl,rfl⟩
 ·exact ⟨rfl,rfl⟩
 ·exact absurd k1 h1
 ·exact absurd k1 h1
 ·exact absurd h1 k1
 ·exact ⟨rfl,rfl⟩
 ·rw [h2] at k2;cases k2
 ·exact absurd h1 k1
 ·rw [h2] at k2;cases k2
 ·exact ⟨rfl,rfl⟩
def nE (w w':World) (x:Ending) (f:Fc) (s:ByteArray):Prop:=∃ ao c L er,x = .returned (.tuple #[.slice ao L.length c,.int .i64 er])/\fX w' ao L.length c L/\L.length <= 3518437208883/\Below w.heap.size w w'/\uT f s L er
attribute [local go_sem ↓] zq zp zE zD zY zX K.zy K.zx yy wT wI zc2
attribute [local go_sem] zi zk zl zr zv zz zM zR K.zu K.zH K.zJ K.xq jA kn zhe kD
theorem zem (N:Nat) (f:Fc) (s:ByteArray) (w:World) (hF:SwB N w f) (hs:s.size <= maxLen):Calls Tryz.prog 19 #[FaV (mkF f),.string s] w fun x w'=>nE w w' x f s:=by
 have b1:=ze w (.cells (FaC (mkF f)) 29);have X1:=zU w (mkF f);obtain ⟨wk,aL⟩:∃ w1,w.alloc (.cells (FaC (mkF f)) 29)=w1:=⟨_,rfl⟩;rw [aL] at b1 X1;obtain ⟨G,cK⟩:∃ G,w.heap.size=G:=⟨_,rfl⟩;rw [cK] at X1;have HX:=hide X1;have al:=hide b1;have HF:=hide (hF.below b1);have JD:=hide hs;clear hF b1 X1 hs;have l0:=zW HX.out;go_enter Tryz.func19,Tryz.ntmps19;go_wp2_with fail;clear aL cK l0;refine (ju f _ HF.ok).mono ?_;rintro x w3 ⟨z,rfl,hz,b3⟩;have aw:=hide b3;have Hz:=hide hz;clear b3 hz;rcases Hz.out with ⟨rfl,h1⟩ | ⟨rfl,h1⟩;rotate_left
 ·have HE:Hid (nE w w3 (.returned (.tuple #[.slice none 0 0,.int .i64 1])) f s):=⟨none,0,[],1,rfl,fX.nil _,Nat.zero_le _,tmq al aw,.inl ⟨h1,rfl,rfl⟩⟩;clear h1 Hz;go_wp2_with fail;go_ret2;exact HE.out
 have lh:=hide h1;have KU:Hid (K.chk f.es=0):=(js HF.ok.es.1).2 h1.1;clear h1 Hz;have c0:=(HX.below aw).cs.1;go_wp2_with fail;clear c0;refine (K.zjr f.ao f.an f.ac f.es s _ (HF.ok.below aw).es JD).mono ?_;rintro x w4 ⟨lo,ln,lc,rfl,SL,b4,-⟩;have aI:=wTr aw b4;have od:=hide SL;clear SL b4
 cases hg:K.eQ s.data.toList with
 | false =>
  have he:K.ofE f.es s=5:=by unfold K.ofE;rw [if_pos KU.out,if_neg (by rw [hg];decide)]
  have HE:Hid (nE w w4 (.returned (.tuple #[.slice none 0 0,.int .i64 5])) f s):=⟨none,0,[],5,rfl,fX.nil _,Nat.zero_le _,tmq al aI,.inr (.inl ⟨lh.out,hg,rfl,rfl⟩)⟩;rw [he];clear hg he;go_wp2_with fail;go_ret2;exact HE.out
 | true =>
 have Hg:=hide hg
 have he:K.ofE f.es s=0:=by unfold K.ofE;rw [if_pos KU.out,if_pos hg]
 obtain ⟨L,hL⟩:∃ L,K.ofV f.es s=L:=⟨_,rfl⟩
 have Mt:Hid (L=f.es.filter (fun e=>K.eqS e.sku s)):=by show _=_;rw [<- hL];unfold K.ofV;rw [if_pos he]
 have HS:Hid (K.aD w4 lo ln lc L):=by rw [<- hL];exact od.out
 have eT:Hid (L.length=ln):=HS.1;have lL:=HS.2.2.2.2;have Fr:Hid (ag f.p.P/\∀ r∈f.rs,ag r.p.P):=⟨lh.2.1,fun r hr=>((xy.1 (by rw [HF.ok.rs.len];exact lh.2.2)).1 r hr).2.1⟩;rw [he];clear hg he hL od;go_wp2_with fail;go_loopw [9,29] (fun v i wr=>∃ (k:Nat) (ap:Option Addr) (c:Nat) (acc:List FtR),k <= ln/\v = .slice ap acc.length c/\i = .int .i64 (k:Int)/\Hid (acc=(L.take k).map (ftE f)/\eM w4.heap.size w4.heap.size w4 wr ap c acc)) (fun _ i _=>ln - (intOf i).toNat)
 case atStart=>exact ⟨0,none,0,[],Nat.zero_le _,rfl,rfl,rfl,eM.nil (Below.refl _ _) (Nat.le_refl _) (Nat.le_refl _)⟩
 case round =>
  obtain ⟨k,ap,c,acc,hk,rfl,rfl,HO⟩:=hrel
  rename World=>wr
  by_cases ak:k < ln
  ·have aX:(k:Int) < (ln:Int):=by omega
   have nJ:acc.length <= k:=by
    rw [HO.1,List.length_map,List.length_take];omega
   have nj:acc.length < 3518437208883:=by omega
   have HT:=hide (mD L k (by rw [eT.out];exact ak));obtain ⟨ad,cU,A0⟩:=(HS.below HO.2.below).at k ak;subst cU;have dF:=K.zB A0;obtain ⟨e,He⟩:∃ e,Hid (L.getD k K.en0=e):=⟨_,rfl⟩;rw [He.out] at HT dF;obtain ⟨ge,p8⟩:∃ g,wr.heap.size=g:=⟨_,rfl⟩;obtain ⟨wa,cd,Xa,ba,-⟩:=K.made wr e ge p8;have Is:=hide Xa;have ov:=hide (HO.2.later ba);have dG:=hide HO.1;have mo:=wTr aI ov.below;have l1:=zW (HX.below mo)
   have l2:=K.zB Xa.at
   have aK:=hide ak;clear A0 Xa ba ak hk HO;go_wp2_with fail;clear cd p8 dF l1 l2;refine (vh N f e _ (HF.below mo) Fr.1 Fr.2).mono ?_;rintro x w6 ⟨rfl,b6⟩;have iJ:=hide (ov.later b6);clear b6
   have HN:Hid ((L.take (k+1)).map (ftE f)=acc++[ftE f e]):=by show _=_;rw [HT.out,List.map_append,<- dG.out];rfl
   go_wp2_with (at_builtin;refine iJ.append (ftE f e) _ rfl nj rfl (.tmp 33) (.tmp 37) rfl acc.length rfl rfl rfl ?_;intro g7 c7 w7 O7 hk7;have fj:=hide O7;clear O7 hk7);go_roundw
   case rel=>exact ⟨k+1,some ⟨g7,0,none⟩,c7,acc++[ftE f e],aK.out,by simp,by simp,HN.symm,fj.out⟩
   case measure=>simp [intOf];have:=aK.out;omega
  ·have aX:¬ (k:Int) < (ln:Int):=by omega
   have HE:Hid (nE w wr (.returned (.tuple #[.slice ap acc.length c,.int .i64 0])) f s):=by
    obtain ⟨h1,h2⟩:=HO.out
    have h3:acc=L.map (ftE f):=by rw [h1,List.take_of_length_le (by rw [eT.out];omega)]
    refine ⟨ap,c,acc,0,rfl,h2.src,?_,tmq al (aI.trans (h2.below.mono aI.size)),.inr (.inr ⟨lh.out,Hg.out,rfl,by rw [h3,Mt.out]⟩)⟩;rw [h3,List.length_map,eT.out];exact lL
   clear HO;go_wp2_with fail;go_ret2;exact HE.out
theorem Cn (f:Fc) (s:ByteArray) (L:List K.En) (k:Nat) (e:K.En) (ht:L.take (k+1)=L.take k++[e]):((L.take (k+1)).filter (fun e=>K.eqS e.sku s)).map (ftE f)=((L.take k).filter (fun e=>K.eqS e.sku s)).map (ftE f)++(if K.eqS e.sku s then [ftE f e] else []):=by
 rw [ht,List.filter_append,List.map_append,List.filter_cons]
 cases K.eqS e.sku s <;> rfl
theorem zbg (f:Fc) (s:ByteArray) (w:World) (hF:aU w f) (hs:s.size <= maxLen):Calls Tryz.prog 20 #[FaV (mkF f),.string s] w fun x w'=>nE w w' x f s:=by
 have b1:=ze w (.cells (FaC (mkF f)) 29);have X1:=zU w (mkF f);obtain ⟨wk,aL⟩:∃ w1,w.alloc (.cells (FaC (mkF f)) 29)=w1:=⟨_,rfl⟩;rw [aL] at b1 X1;obtain ⟨G,cK⟩:∃ G,w.heap.size=G:=⟨_,rfl⟩;rw [cK] at X1;have HX:=hide X1;have al:=hide b1;have H6:=hide (hF.below b1);have JD:=hide hs;clear hF b1 X1 hs;have l0:=zW HX.out;go_enter Tryz.func20,Tryz.ntmps20;go_wp2_with fail;clear aL cK l0;refine (jG f _ H6).mono ?_;rintro x w3 ⟨b,rfl,hb,b3⟩;have aw:=hide b3;clear b3
 cases b with
 | false =>
  have HE:Hid (nE w w3 (.returned (.tuple #[.slice none 0 0,.int .i64 1])) f s):=⟨none,0,[],1,rfl,fX.nil _,Nat.zero_le _,tmq al aw,.inl ⟨fun h=>(by have:=hb.2 h;cases this),rfl,rfl⟩⟩;clear hb;go_wp2_with fail;go_ret2;exact HE.out
 | true =>
 have lh:Hid (ar f):=hb.1 rfl;clear hb;have Mm:Hid (K.Asc f.es):=K.kj ((js H6.es.1).2 lh.1);go_wp2_with fail;refine (K.jF s _ JD).mono ?_;rintro x w4 ⟨rfl,h4⟩;obtain rfl:w3=w4:=h4.symm;clear h4
 cases hg:K.eQ s.data.toList with
 | false =>
  have HE:Hid (nE w w3 (.returned (.tuple #[.slice none 0 0,.int .i64 5])) f s):=⟨none,0,[],5,rfl,fX.nil _,Nat.zero_le _,tmq al aw,.inr (.inl ⟨lh.out,hg,rfl,rfl⟩)⟩;clear hg;go_wp2_with fail;go_ret2;exact HE.out
 | true =>
 have Hg:=hide hg;clear hg;obtain ⟨n,hn⟩:∃ n,f.an=n:=⟨_,rfl⟩;obtain ⟨ao,cU⟩:∃ a,f.ao=a:=⟨_,rfl⟩;obtain ⟨ac,oh⟩:∃ a,f.ac=a:=⟨_,rfl⟩;have HF:=hide (H6.below aw)
 have HS:Hid (K.aD w3 ao n ac f.es):=by rw [<- hn,<- cU,<- oh];exact HF.es
 have dh:=hide (HX.below aw)
 have rz:Hid (∀ W,Below w3.heap.size w3 W -> W.cell? ⟨G,0,none⟩=some (.slice ao n ac)):=fun W h=>by rw [<- hn,<- cU,<- oh];exact (dh.below h).cs.1
 have eT:Hid (f.es.length=n):=HS.1;have lL:=HS.2.2.2.2;clear hn cU oh;go_wp2_with fail;go_loopw [6,7] (fun v i wr=>∃ (k:Nat) (ap:Option Addr) (c:Nat) (acc:List FtR),k <= n/\v = .slice ap acc.length c/\i = .int .i64 (k:Int)/\Hid (acc=((f.es.take k).filter (fun e=>K.eqS e.sku s)).map (ftE f)/\eM w3.heap.size w3.heap.size w3 wr ap c acc)) (fun _ i _=>n - (intOf i).toNat)
 case atStart=>exact ⟨0,none,0,[],Nat.zero_le _,rfl,rfl,rfl,eM.nil (Below.refl _ _) (Nat.le_refl _) (Nat.le_refl _)⟩
 case round =>
  obtain ⟨k,ap,c,acc,hk,rfl,rfl,HO⟩:=hrel
  rename World=>wr
  have c0:=rz.out _ HO.2.below;by_cases ak:k < n
  ·have aX:(k:Int) < (n:Int):=by omega
   have nJ:acc.length <= k:=by
    rw [HO.1,List.length_map];refine Nat.le_trans (List.length_filter_le _ _) ?_;rw [List.length_take];omega
   have nj:acc.length < 3518437208883:=by omega
   have HT:=hide (mD f.es k (by rw [eT.out];exact ak))
   have I1:Hid (f.es.getD k K.en0∈f.es):=by show _∈_;rw [show f.es.getD k K.en0=f.es[k]'(by rw [eT.out];exact ak) by simp [List.getD,eT.out,ak]];exact List.getElem_mem _
   obtain ⟨ad,cU,A0⟩:=(HS.below HO.2.below).at k ak;subst cU;obtain ⟨e,He⟩:∃ e,Hid (f.es.getD k K.en0=e):=⟨_,rfl⟩;rw [He.out] at HT A0
   have No:Hid (e∈f.es):=by have:=I1.out;rw [He.out] at this;exact this
   have q2:=zjX A0;have HN:=hide (Cn f s f.es k e HT);rw [<- HO.1] at HN;have aK:=hide ak
   have aB:Hid (∀ W,Below w3.heap.size w3 W -> ((gN (.pointer (some ⟨G,0,none⟩))).run Tryz.prog W = .ok (FaV (mkF f)) W/\W.cell? ⟨G,0,none⟩=some (.slice (some ad) n ac))/\(ldD (.pointer (some (ad.add (k * 4))))).run Tryz.prog W = .ok (RV (ae e)) W):=fun W hW=>by
    obtain ⟨ad',nX,A⟩:=(HS.below hW).at k aK.out;obtain rfl:=Option.some.inj nX;rw [He.out] at A;exact ⟨⟨zW (dh.below hW),rz.out _ hW⟩,zG (r:=ae e) ⟨A.c0,A.c1⟩⟩
   clear A0 ak hk
   cases hq:K.eqS e.sku s with
   | true =>
    have m7:(e.sku.toList == s.toList)=true:=hq
    have mL:Hid (((f.es.take (k+1)).filter (fun e=>K.eqS e.sku s)).map (ftE f)=acc++[ftE f e]):=by have:=HN.out;rw [hq] at this;exact this
    clear hq;go_upto_region 10 with fail;clear c0 q2 m7;refine wp_region_held_drew (S:=fun W=>((gN (.pointer (some ⟨G,0,none⟩))).run Tryz.prog W = .ok (FaV (mkF f)) W/\W.cell? ⟨G,0,none⟩=some (.slice (some ad) n ac))/\(ldD (.pointer (some (ad.add (k * 4))))).run Tryz.prog W = .ok (RV (ae e)) W) (by kernel_rfl) (aB.out _ (HO.2.below.trans ((zf wr).mono HO.2.below.size))) (fun hHeld=>?_);refine wU 0 ?_;refine wU 1 ?_;refine wU 2 ?_;refine wU 3 ?_;refine wU 4 ?_;refine wU 5 ?_;refine wU 6 ?_;refine wU 7 ?_;refine wR 8 fun K hK=>?_;go_simp;go_wp2_with fail;refine (yl f (ae e) _ (HF.below (HO.2.below.trans ((zf wr).mono HO.2.below.size)))).mono ?_;rintro x w5 ⟨t,rfl,b5,ht⟩;obtain rfl:t=ftE f e:=ht.one Mm.out (.inl ⟨e,No.out,rfl,rfl⟩)
    have b55:=(zf wr).trans (b5.mono (zf wr).size);have gv:=hide (HO.2.later b55);obtain ⟨g6,c6,w6,hr,O6,b6⟩:=gv.runOne (ftE f e) acc.length rfl nj;have HR:=hide hr;have iJ:=hide O6;have Mf:=hide (ze w5 (.cells (FtC (ftE f e)) 52));clear b5 ht b55 hr O6 b6;refine hK.out _ _ (aB.out _ gv.below) (fun hHeld=>?_);clear hK K;refine wR 9 fun K hK=>?_;go_simp;refine hK.out _ _ (aB.out _ (gv.below.trans (Mf.mono gv.below.size))) (fun hHeld=>?_);clear hK K;refine wR 10 fun K hK=>?_;refine xk (by rfl) (.tmp 29) (.tmp 38) (by rfl) (by rfl) (by rfl) HR.out ?_;refine hK.out _ _ (aB.out _ iJ.below) (fun hHeld=>?_);clear hK K;refine wU 11 ?_;refine wD ?_ _
    clear hHeld;go_wp2_with fail;go_roundw
    case rel=>exact ⟨k+1,some ⟨g6,0,none⟩,c6,acc++[ftE f e],aK.out,by simp,by simp,mL.symm,iJ.out⟩
    case measure=>simp [intOf];have:=aK.out;omega
   | false =>
    have m7:(e.sku.toList == s.toList)=false:=hq
    have mL:Hid (((f.es.take (k+1)).filter (fun e=>K.eqS e.sku s)).map (ftE f)=acc):=by show _=_;have:=HN.out;rw [hq] at this;simpa using this
    have lU:=hide HO.2;clear hq;go_wp2_with fail;clear c0 q2 m7;go_roundw
    case rel=>exact ⟨k+1,ap,c,acc,aK.out,rfl,by simp,mL.symm,lU.out⟩
    case measure=>simp [intOf];have:=aK.out;omega
  ·have aX:¬ (k:Int) < (n:Int):=by omega
   have HE:Hid (nE w wr (.returned (.tuple #[.slice ap acc.length c,.int .i64 0])) f s):=by
    obtain ⟨h1,h2⟩:=HO.out
    have h3:acc=(f.es.filter (fun e=>K.eqS e.sku s)).map (ftE f):=by rw [h1,List.take_of_length_le (by rw [eT.out];omega)]
    refine ⟨ap,c,acc,0,rfl,h2.src,?_,tmq al (aw.trans (h2.below.mono aw.size)),.inr (.inr ⟨lh.out,Hg.out,rfl,h3⟩)⟩;rw [h3,List.length_map];exact Nat.le_trans (List.length_filter_le _ _) (by rw [eT.out];exact lL)
   clear HO;go_wp2_with fail;go_ret2;exact HE.out
theorem yT (ao bo:Option Addr) (c c':Nat) (L:List FtR) (w:World) (hA:fX w ao L.length c L) (hB:fX w bo L.length c' L) (hl:L.length <= 3518437208883):Calls Tryz.prog 21 #[.slice ao L.length c,.slice bo L.length c'] w fun x w'=>x = .returned (.bool true)/\Below w.heap.size w w':=by
 have HA:=hide hA;have HB:=hide hB;obtain ⟨n,hn⟩:∃ n,L.length=n:=⟨_,rfl⟩;rw [hn] at hl HA HB ⊢;clear hA hB hn;go_enter Tryz.func21,Tryz.ntmps21;go_wp2_with fail;go_loopw [5] (fun i wr=>∃ (k:Nat),k <= n/\i = .int .i64 (k:Int)/\Hid (Below w.heap.size w wr)) (fun i _=>n - (intOf i).toNat)
 case atStart=>exact ⟨0,Nat.zero_le _,rfl,Below.refl _ _⟩
 case round =>
  obtain ⟨k,hk,rfl,fl⟩:=hrel
  rename World=>wr
  by_cases ak:k < n
  ·have aX:(k:Int) < (n:Int):=by omega
   obtain ⟨ad,cU⟩:=HA.some_of (by omega);obtain ⟨bd,Gl⟩:=HB.some_of (by omega);subst cU Gl;obtain ⟨x,hx⟩:∃ x,L.getD k ft0=x:=⟨_,rfl⟩
   have aB:Hid (∀ W,Below w.heap.size w W -> (mE (.pointer (some (ad.add (k * 4))))).run Tryz.prog W = .ok (FtV x) W/\(mE (.pointer (some (bd.add (k * 4))))).run Tryz.prog W = .ok (FtV x) W):=fun W h=>by
    have a:=(HA.below h).cell ad rfl k ak;have b:=(HB.below h).cell bd rfl k ak;rw [hx] at a b;exact ⟨zc0 a,zc0 b⟩
   have aK:=hide ak;have he:=zbF x;clear ak hk hx;go_upto_region 6 with fail;refine wp_region_held_drew (S:=fun W=>(mE (.pointer (some (ad.add (k * 4))))).run Tryz.prog W = .ok (FtV x) W/\(mE (.pointer (some (bd.add (k * 4))))).run Tryz.prog W = .ok (FtV x) W) (by kernel_rfl) (aB.out _ (tmq fl (zf wr))) (fun hHeld=>?_);refine wU 0 ?_;refine wU 1 ?_;refine wU 2 ?_;refine wU 3 ?_;refine wU 4 ?_;refine wU 5 ?_;refine wU 6 ?_;refine wU 7 ?_;refine wU 8 ?_;refine wD ?_ _;clear hHeld;have cZ:=hide (tmq fl (zf wr));go_wp2_with fail;clear he;go_roundw
   case rel=>exact ⟨k+1,aK.out,by simp,cZ.out⟩
   case measure=>simp [intOf];have:=aK.out;omega
  ·have aX:¬ (k:Int) < (n:Int):=by omega
   clear ak hk;go_wp2_with fail;go_ret;exact ⟨rfl,fl.out⟩
end
section
open Go.RowKit
def uD (f:Fc) (m:SpR) (er:Int):Prop:=(¬ ar f/\er=1/\m=sp0)∨(ar f/\er=0/\∃ s z,StD f s/\gQ (aa f.p.P) z/\m=⟨(f.es.length:Int) - (s.es.length:Int),z,(f.rs.length:Int) - ((plR s.rs).length:Int)⟩)
theorem uD.one {f:Fc} {m n:SpR} {a b:Int} (h:uD f m a) (k:uD f n b):m=n/\a=b:=by
 rcases h with ⟨h1,rfl,rfl⟩ | ⟨h1,rfl,s,z,h2,h3,rfl⟩ <;> rcases k with ⟨k1,rfl,rfl⟩ | ⟨k1,rfl,t,y,k2,k3,rfl⟩
 ·exact ⟨rfl,rfl⟩
 ·exact absurd k1 h1
 ·exact absurd h1 k1
 ·have e:=wRq h2 k2;have ez:=h3.unique k3 (fun r _ n=>Iff.rfl);rw [e.1,e.2.2,ez];exact ⟨rfl,rfl⟩
def rm (w w':World) (x:Ending) (f:Fc):Prop:=∃ m er,x = .returned (.tuple #[SpV m,.int .i64 er])/\Below w.heap.size w w'/\uD f m er
attribute [local go_sem ↓] zq zp zE zD zP zO zbT zco zb3
attribute [local go_sem] zi zk zl zr zv bh vv wK bS
theorem zb8 (w:World):(oR #[]).run Tryz.prog w = .ok (.agg (SpC sp0)) w:=by kernel_rfl
attribute [local go_sem] zb8
theorem zen (N:Nat) (hN:N <= 4) (f:Fc) (w:World) (hS:SwB N w f):Calls Tryz.prog 22 #[FaV (mkF f)] w fun e w'=>rm w w' e f:=by
 obtain ⟨wk,aL,HX,HZ,al⟩:=td w f;obtain ⟨G,cK⟩:∃ G,w.heap.size=G:=⟨_,rfl⟩;rw [cK] at HX HZ;have eX:Hid (w.heap.size=G):=cK;have HF:=hide (hS.below al);have hN:=hide hN;clear hS;have l0:=zW HX.out;go_enter Tryz.func22,Tryz.ntmps22;go_wp2_with fail;clear aL cK l0;refine (yG N hN.out f _ HF).mono ?_;rintro e v3 ⟨s,er,rfl,Ss,b3,hs⟩;have Hs:=hide hs;clear hs;obtain ⟨gs,ph⟩:∃ g,v3.heap.size=g:=⟨_,rfl⟩;obtain ⟨w3,cd,X3,B3,-⟩:=lC v3 s gs ph;have b33:=tmq b3 B3;have aw:=hide b33;have tV:=hide X3;have dh:=hide (HX.below b33)
 have AT:Hid (G+1 < gs):=by have h1:=HZ.lt;have h2:=b3.size;show _ < _;omega
 have mW:=hide Ss;clear Ss b3 X3 B3 b33;rcases Hs.out with ⟨h1,rfl,-⟩ | ⟨h1,rfl,h2⟩
 ·have A3:=HZ.below aw.out;have st:=kI (m':=sp0) A3;have df:Hid (cN (w3.setRow (G+1) (SpC sp0)) (G+1) sp0):=A3.setRow;have HE:Hid (rm w (w3.setRow (G+1) (SpC sp0)) (.returned (.tuple #[SpV sp0,.int .i64 1])) f):=⟨sp0,1,rfl,zh (tmq al aw) (by rw [eX.out];omega),.inl ⟨h1,rfl,rfl⟩⟩;clear A3 h1 Hs;go_wp2_with fail;clear st cd ph;refine bodyPost_ret (mC rfl rfl rfl df) rfl ?_;exact HE.out
 have lh:=hide h1;have HD:=hide h2;clear h1 h2 Hs;obtain ⟨a,ha⟩:∃ a:Int,(f.an:Int) - (s.an:Int)=a:=⟨_,rfl⟩;obtain ⟨b,hb⟩:∃ b:Int,(f.rn:Int) - (s.rn:Int)=b:=⟨_,rfl⟩
 have u7:Hid ((f.es.length:Int) - (s.es.length:Int)=a/\(f.rs.length:Int) - ((plR s.rs).length:Int)=b):=by
  have q1:=HF.ok.es.1;have q2:=mW.ok.es.1;have q3:=HF.ok.rs.len;have q4:=mW.ok.rs.len;rw [jo];exact ⟨by rw [q1,q2,ha],by rw [q3,q4,hb]⟩
 have Mq:IntKind.i64.wrap ((f.an:Int) - (s.an:Int))=a:=by
  have q1:=HF.an;have q2:=mW.an;rw [IntKind.wrap_i64,<- ha];omega
 have LY:IntKind.i64.wrap ((f.rn:Int) - (s.rn:Int))=b:=by
  have q1:=HF.rn;have q2:=mW.rn;rw [IntKind.wrap_i64,<- hb];omega
 clear ha hb;have aB:Hid (∀ W,aF W G (mkF f) -> aG W gs (mkF s) -> (W.cell? ⟨G,0,none⟩=some (.slice f.ao f.an f.ac)/\W.cell? ⟨G,3,none⟩=some (.slice f.ro f.rn f.rc)/\(ldP (.pointer (some ⟨G,1,none⟩))).run Tryz.prog W = .ok (PV f.p) W)/\W.cell? ⟨gs,0,none⟩=some (.slice s.ao s.an s.ac)/\W.cell? ⟨gs,3,none⟩=some (.slice s.ro s.rn s.rc)):=fun W h k=>⟨⟨h.cs.1,h.cs.2,zj h.past⟩,k.cs⟩;go_upto_region 4 with fail;clear cd ph;refine wp_region_held_drew (S:=fun W=>(W.cell? ⟨G,0,none⟩=some (.slice f.ao f.an f.ac)/\W.cell? ⟨G,3,none⟩=some (.slice f.ro f.rn f.rc)/\(ldP (.pointer (some ⟨G,1,none⟩))).run Tryz.prog W = .ok (PV f.p) W)/\W.cell? ⟨gs,0,none⟩=some (.slice s.ao s.an s.ac)/\W.cell? ⟨gs,3,none⟩=some (.slice s.ro s.rn s.rc)) (by kernel_rfl) (aB.out _ (dh.below (zf w3)) (tV.below (zf w3))) (fun hHeld=>?_)
 refine wU 0 ?_;refine wU 1 ?_;refine wU 2 ?_;refine wU 3 ?_;refine wU 4 ?_;refine wU 5 ?_;refine wU 6 ?_;refine wU 7 ?_;refine wU 8 ?_;refine wU 10 ?_;refine wU 11 ?_;refine wU 12 ?_;refine wU 13 ?_;refine wU 14 ?_;refine wU 15 ?_;refine wU 16 ?_;refine wR 9 fun K hK=>?_;go_simp;go_wp2_with fail;refine (vV f.p _ ((HF.ok.below aw).p.below (zf w3))).mono ?_;rintro x w5 ⟨z,rfl,hz,b5⟩;have Hz:=hide hz;have b55:=(zf w3).trans (b5.mono (zf w3).size);have gK:=hide (dh.below b55);have rI:=hide (tV.below b55);have cZ:=wTr aw b55;clear b5 b55 hz;refine hK.out _ _ (aB.out _ gK.out rI) (fun hHeld=>?_);clear hK K;refine wU 17 ?_;have A5:=HZ.below cZ.out;have st:=kI (m':=⟨a,z,b⟩) A5;replace st:(rl (.pointer (some ⟨G+1,0,none⟩)) (.agg #[.int .i64 a,.int .i64 z,.int .i64 b])).run Tryz.prog w5 = .ok () (w5.setRow (G+1) (SpC ⟨a,z,b⟩)):=st
 have df:Hid (cN (w5.setRow (G+1) (SpC ⟨a,z,b⟩)) (G+1) ⟨a,z,b⟩):=A5.setRow;have tG:Hid (aF (w5.setRow (G+1) (SpC ⟨a,z,b⟩)) G (mkF f)):=(setRow_other _ _ _ _ (by omega)).trans gK.out;have BY:Hid (aG (w5.setRow (G+1) (SpC ⟨a,z,b⟩)) gs (mkF s)):=(setRow_other _ _ _ _ (by have:=AT.out;omega)).trans rI.out;have HE:Hid (rm w (w5.setRow (G+1) (SpC ⟨a,z,b⟩)) (.returned (.tuple #[SpV ⟨a,z,b⟩,.int .i64 0])) f):=⟨_,0,rfl,zh (tmq al cZ) (by rw [eX.out];omega),.inr ⟨lh.out,rfl,s,z,HD.out,Hz.out,by rw [<- u7.1,<- u7.2]⟩⟩;clear A5;refine wR 18 fun K hK=>?_;go_simp;refine hK.out _ _ (aB.out _ tG.out BY) (fun hHeld=>?_);clear hK K;clear st;refine wU 19 ?_;refine wD ?_ _
 clear hHeld;go_wp2_with fail;refine bodyPost_ret (mC rfl rfl rfl df) rfl ?_;exact HE.out
theorem zbh (N:Nat) (hN:N <= 4) (f:Fc) (w:World) (hS:SwB N w f):Calls Tryz.prog 23 #[FaV (mkF f)] w fun e w'=>rm w w' e f:=by
 obtain ⟨wk,aL,HX,HZ,al⟩:=td w f;obtain ⟨G,cK⟩:∃ G,w.heap.size=G:=⟨_,rfl⟩;rw [cK] at HX HZ;have eX:Hid (w.heap.size=G):=cK;have HF:=hide (hS.below al);have hN:=hide hN;clear hS;have l0:=zW HX.out;go_enter Tryz.func23,Tryz.ntmps23;go_wp2_with fail;clear aL cK l0;refine (jG f _ HF.ok).mono ?_;rintro e w3 ⟨b,rfl,hb,b3⟩;have aw:=hide b3;clear b3
 cases b with
 | false =>
  have A3:=HZ.below aw.out;have st:=kI (m':=sp0) A3;have df:Hid (cN (w3.setRow (G+1) (SpC sp0)) (G+1) sp0):=A3.setRow;have HE:Hid (rm w (w3.setRow (G+1) (SpC sp0)) (.returned (.tuple #[SpV sp0,.int .i64 1])) f):=⟨sp0,1,rfl,zh (tmq al aw) (by rw [eX.out];omega),.inl ⟨fun h=>(by have:=hb.2 h;cases this),rfl,rfl⟩⟩;clear A3 hb;go_wp2_with fail;clear st;refine bodyPost_ret (mC rfl rfl rfl df) rfl ?_;exact HE.out
 | true =>
 have lh:Hid (ar f):=hb.1 rfl;have l0:=zW (HX.below aw);clear hb;go_wp2_with fail;clear l0;refine (yU N hN.out f _ (HF.below aw) lh).mono ?_;rintro e v3 ⟨s,rfl,Ss,b3,hs⟩;have HD:=hide hs;replace b3:=tmq aw b3;clear hs aw;obtain ⟨gs,ph⟩:∃ g,v3.heap.size=g:=⟨_,rfl⟩;obtain ⟨w3,cd,X3,B3,-⟩:=lC v3 s gs ph;have b33:=tmq b3 B3;have aw:=hide b33;have tV:=hide X3;have dh:=hide (HX.below b33)
 have AT:Hid (G+1 < gs):=by have h1:=HZ.lt;have h2:=b3.size;show _ < _;omega
 have mW:=hide Ss;clear Ss b3 X3 B3 b33;obtain ⟨a,ha⟩:∃ a:Int,(f.an:Int) - (s.an:Int)=a:=⟨_,rfl⟩;obtain ⟨b,hb⟩:∃ b:Int,(f.rn:Int) - (s.rn:Int)=b:=⟨_,rfl⟩
 have u7:Hid ((f.es.length:Int) - (s.es.length:Int)=a/\(f.rs.length:Int) - ((plR s.rs).length:Int)=b):=by
  have q1:=HF.ok.es.1;have q2:=mW.ok.es.1;have q3:=HF.ok.rs.len;have q4:=mW.ok.rs.len;rw [jo];exact ⟨by rw [q1,q2,ha],by rw [q3,q4,hb]⟩
 have Mq:IntKind.i64.wrap ((f.an:Int) - (s.an:Int))=a:=by
  have q1:=HF.an;have q2:=mW.an;rw [IntKind.wrap_i64,<- ha];omega
 have LY:IntKind.i64.wrap ((f.rn:Int) - (s.rn:Int))=b:=by
  have q1:=HF.rn;have q2:=mW.rn;rw [IntKind.wrap_i64,<- hb];omega
 clear ha hb;have aB:Hid (∀ W,aF W G (mkF f) -> aG W gs (mkF s) -> (W.cell? ⟨G,0,none⟩=some (.slice f.ao f.an f.ac)/\W.cell? ⟨G,3,none⟩=some (.slice f.ro f.rn f.rc)/\(ldP (.pointer (some ⟨G,1,none⟩))).run Tryz.prog W = .ok (PV f.p) W)/\W.cell? ⟨gs,0,none⟩=some (.slice s.ao s.an s.ac)/\W.cell? ⟨gs,3,none⟩=some (.slice s.ro s.rn s.rc)):=fun W h k=>⟨⟨h.cs.1,h.cs.2,zj h.past⟩,k.cs⟩;go_upto_region 4 with fail;clear cd ph;refine wp_region_held_drew (S:=fun W=>(W.cell? ⟨G,0,none⟩=some (.slice f.ao f.an f.ac)/\W.cell? ⟨G,3,none⟩=some (.slice f.ro f.rn f.rc)/\(ldP (.pointer (some ⟨G,1,none⟩))).run Tryz.prog W = .ok (PV f.p) W)/\W.cell? ⟨gs,0,none⟩=some (.slice s.ao s.an s.ac)/\W.cell? ⟨gs,3,none⟩=some (.slice s.ro s.rn s.rc)) (by kernel_rfl) (aB.out _ (dh.below (zf w3)) (tV.below (zf w3))) (fun hHeld=>?_)
 refine wU 0 ?_;refine wU 1 ?_;refine wU 2 ?_;refine wU 3 ?_;refine wU 4 ?_;refine wU 5 ?_;refine wU 6 ?_;refine wU 7 ?_;refine wU 8 ?_;refine wU 10 ?_;refine wU 11 ?_;refine wU 12 ?_;refine wU 13 ?_;refine wU 14 ?_;refine wU 15 ?_;refine wU 16 ?_;refine wR 9 fun K hK=>?_;go_simp;go_wp2_with fail;refine (yi f.p _ ((HF.ok.below aw).p.below (zf w3))).mono ?_;rintro x w5 ⟨NN,JV,rfl,b5⟩;obtain ⟨z,IG⟩:∃ z,szn NN 16=z:=⟨_,rfl⟩;have hz:gQ (aa f.p.P) z:=⟨NN,JV,by rw [<- IG];exact bU NN 16⟩;rw [IG];clear IG JV;have Hz:=hide hz;have b55:=(zf w3).trans (b5.mono (zf w3).size);have gK:=hide (dh.below b55);have rI:=hide (tV.below b55);have cZ:=wTr aw b55;clear b5 b55 hz;refine hK.out _ _ (aB.out _ gK.out rI) (fun hHeld=>?_)
 clear hK K;refine wU 17 ?_;have A5:=HZ.below cZ.out;have st:=kI (m':=⟨a,z,b⟩) A5;replace st:(rl (.pointer (some ⟨G+1,0,none⟩)) (.agg #[.int .i64 a,.int .i64 z,.int .i64 b])).run Tryz.prog w5 = .ok () (w5.setRow (G+1) (SpC ⟨a,z,b⟩)):=st;have df:Hid (cN (w5.setRow (G+1) (SpC ⟨a,z,b⟩)) (G+1) ⟨a,z,b⟩):=A5.setRow;have tG:Hid (aF (w5.setRow (G+1) (SpC ⟨a,z,b⟩)) G (mkF f)):=(setRow_other _ _ _ _ (by omega)).trans gK.out;have BY:Hid (aG (w5.setRow (G+1) (SpC ⟨a,z,b⟩)) gs (mkF s)):=(setRow_other _ _ _ _ (by have:=AT.out;omega)).trans rI.out;have HE:Hid (rm w (w5.setRow (G+1) (SpC ⟨a,z,b⟩)) (.returned (.tuple #[SpV ⟨a,z,b⟩,.int .i64 0])) f):=⟨_,0,rfl,zh (tmq al cZ) (by rw [eX.out];omega),.inr ⟨lh.out,rfl,s,z,HD.out,Hz.out,by rw [<- u7.1,<- u7.2]⟩⟩
 clear A5;refine wR 18 fun K hK=>?_;go_simp;refine hK.out _ _ (aB.out _ tG.out BY) (fun hHeld=>?_);clear hK K;clear st;refine wU 19 ?_;refine wD ?_ _;clear hHeld;go_wp2_with fail;refine bodyPost_ret (mC rfl rfl rfl df) rfl ?_;exact HE.out
end
end Go.Proofs.YtjffpimfngdggaaGreat
