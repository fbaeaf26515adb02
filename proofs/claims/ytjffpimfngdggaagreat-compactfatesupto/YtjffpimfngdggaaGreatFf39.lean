import Derived.Test.YtjffpimfngdggaaGreatFf38
set_option maxRecDepth 100000
set_option maxHeartbeats 12800000
namespace Go.Proofs.YtjffpimfngdggaaGreat
open Go.RowKit
theorem dX.empty {B0 B:Nat} {w w':World} (hb:Below B0 w w') (hB:B <= w'.heap.size) (h0:B0 <= B):dX B0 B w (w'.alloc (.cells #[] 48)) (some ⟨w'.heap.size,0,none⟩) 0 []:=by
 refine ⟨⟨rfl,Or.inr ⟨w'.heap.size,0,#[],rfl,hB,heap_alloc_new _ _,Nat.le_refl _,Nat.zero_le _,rfl,rfl⟩⟩,hb.alloc (by omega) _,by simp;omega,h0⟩
theorem zgz (x:SpR) (w:World):(Op.equalIn 10000 60 (.agg (SpC x)) (.agg (SpC x))).run Tryz.prog w = .ok true w:=by
 have hS:Tryz.prog.underlying 60=some (.struct (Tryz.prog.fieldsOf 60)):=by kernel_rfl
 have hp:Tryz.prog.stoodInHeld 60=false:=by kernel_rfl
 have u3:=Tryz.underlying3;have a3:=Tryz.isAgg3;have z3:=Tryz.sizeOf3;obtain ⟨a,b,d⟩:=x
 show (Op.equalIn 10000 60 (.agg #[.int .i64 a,.int .i64 b,.int .i64 d]) (.agg #[.int .i64 a,.int .i64 b,.int .i64 d])).run Tryz.prog w = .ok true w
 rw [show (10000:Nat)=9999+1 from rfl,run_equalIn_struct w 9999 60 _ _ hS hp];simp only [Program.fieldsOf,Tryz.underlying60];have h3:∀ (x:Int) (w:World),(Op.equalIn 9999 3 (.int .i64 x) (.int .i64 x)).run Tryz.prog w = .ok (x == x) w:=fun x w=>run_equalIn_int w 9998 3 .i64 .i64 x x Tryz.underlying3;obtain ⟨D,hD⟩:∃ D,9999=D:=⟨9999,rfl⟩;rw [hD] at h3 ⊢;go_simp
 try simp
theorem eV.cV {w:World} {g:Nat} {c:Cz} (h:eV w g c):w.cell? ⟨g,16,none⟩=some c.v/\w.cell? ⟨g,17,none⟩=some c.u:=by
 unfold eV at h;constructor <;> simp [World.cell?,h,CzC]
attribute [local go_sem ↓] zq zp zE zD zY zX K.zy K.zx yy wT zco zb3 zc2 zgz
attribute [local go_sem] zi zk zl zr zv zz zM zR qp jA kn kD vv wK bS zfT zhT
theorem wl (c:Cz) (w:World) (hU:CzU w c) (vo:Option Addr) (vn vc:Nat) (D:List Rn) (s:ByteArray) (hv:c.v = .slice vo vn vc) (hD:aV w vo vn vc D) (hvn:vn <= 1048576) (hu:c.u = .string s) (hs:s.size <= maxLen):Calls Tryz.prog 4 #[CzV c] w fun e w'=>e = .returned (.bool true)/\Below w.heap.size w w':=by
 have b1:=ze w (.cells (CzC c) 34);have X1:=zgc w c;obtain ⟨wk,aL⟩:∃ w1,w.alloc (.cells (CzC c) 34)=w1:=⟨_,rfl⟩;rw [aL] at b1 X1;obtain ⟨G,cK⟩:∃ G,w.heap.size=G:=⟨_,rfl⟩;rw [cK] at X1;have o8:=hide X1;have Ei:=hide b1;have KD:=hide (hU.f.b.below b1);have DM:=hide (hD.below b1);have FF:Hid (c.v = .slice vo vn vc/\c.u = .string s/\s.size <= maxLen):=⟨hv,hu,hs⟩;have Nr:Hid (D.length=vn):=hD.len;have L1:=hvn;clear hU hD b1 X1 hv hu hs hvn;go_enter Tryz.func4,Tryz.ntmps4;go_wp2_with fail;clear aL cK;refine (zcs _).mono ?_;rintro e w1 ⟨rfl,b1⟩;have HX:=hide (o8.below b1);have al:=wTr Ei b1;have Bu:=hide (KD.below b1);have I6:=hide (DM.below b1);clear b1 o8 Ei KD DM;have rM:Hid (∀ W,Below w1.heap.size w1 W -> SwB 1 W c.f):=fun W h=>Bu.below h
 have Jp:Hid (∀ W,Below w1.heap.size w1 W -> W.cell? ⟨G,16,none⟩=some (.slice vo vn vc)/\W.cell? ⟨G,17,none⟩=some (.string s)):=fun W h=>by
  have a:=(HX.below h).cV;rw [FF.1,FF.2.1] at a;exact a
 obtain ⟨n,hn⟩:∃ n,c.f.an=n:=⟨_,rfl⟩;obtain ⟨ao,cU⟩:∃ a,c.f.ao=a:=⟨_,rfl⟩;obtain ⟨ac,oh⟩:∃ a,c.f.ac=a:=⟨_,rfl⟩
 have HS:Hid (K.aD w1 ao n ac c.f.es):=by rw [<- hn,<- cU,<- oh];exact Bu.ok.es
 have rz:Hid (∀ W,Below w1.heap.size w1 W -> W.cell? ⟨G,0,none⟩=some (.slice ao n ac)):=fun W h=>by rw [<- hn,<- cU,<- oh];exact (HX.below h).fF.c0
 have eT:Hid (c.f.es.length=n):=HS.1
 have lL:n <= 1048576:=by have:=Bu.an;omega
 clear hn cU oh;have v0:=(Jp.out _ (ze w1 (.cells #[] 48))).1;have DJ:=hide (I6.below (ze w1 (.cells #[] 48)));go_wp2_with (at_builtin;refine (dX.empty (Below.refl w1.heap.size w1) (Nat.le_refl _) (Nat.le_refl _)).appendS D vo vn vc DJ.out (by rw [List.length_nil];omega) rfl (.tmp 18) (.tmp 20) rfl 0 rfl rfl rfl ?_;intro ao2 c2 w2 O2;have lU:=hide O2;clear O2);clear v0 DJ;rw [List.nil_append] at lU;go_loopw [3,4] (fun v i wr=>∃ (k m:Nat) (ap:Option Addr) (cc:Nat),k <= n/\m=vn+k/\v = .slice ap m cc/\i = .int .i64 (k:Int)/\Hid (dX w1.heap.size w1.heap.size w1 wr ap cc (D++(c.f.es.take k).map ae))) (fun _ i _=>n - (intOf i).toNat)
 case atStart=>exact ⟨0,vn,ao2,c2,Nat.zero_le _,rfl,rfl,rfl,by rw [List.take_zero,List.map_nil,List.append_nil];exact lU⟩
 case round =>
  obtain ⟨k,m,ap,cc,hk,hm,rfl,rfl,HO⟩:=hrel
  rename World=>wr
  have c0:=rz.out _ HO.below;obtain ⟨acc,dG⟩:∃ acc,Hid (D++(c.f.es.take k).map ae=acc):=⟨_,rfl⟩
  have o3:Hid (acc.length=m):=by show _=_;rw [<- dG.out,List.length_append,List.length_map,List.length_take,Nr.out,eT.out,hm];omega
  rw [dG.out] at HO
  have J2:m <= 2097152:=by omega
  have Hm:Hid (m=vn+k):=hm;clear hm;by_cases ak:k < n
  ·have aX:(k:Int) < (n:Int):=by omega
   obtain ⟨ad,cU,A0⟩:=(HS.below HO.below).at k ak;subst cU;obtain ⟨e,He⟩:∃ e,Hid (c.f.es.getD k K.en0=e):=⟨_,rfl⟩;rw [He.out] at A0
   have HN:Hid (D++(c.f.es.take (k+1)).map ae=acc++[ae e]):=by
    show _=_
    rw [AE c.f.es k (by rw [eT.out];exact ak),<- List.append_assoc,dG.out,He.out]
   have l7:(ldD (.pointer (some (ad.add (k * 4))))).run Tryz.prog wr = .ok (.agg #[.int .i64 e.rep,.int .i64 e.num]) wr:=zG (r:=⟨e.rep,e.num⟩) ⟨A0.c0,A0.c1⟩;have aK:=hide ak;clear A0 ak hk;go_wp2_with (at_builtin;go_loud (refine (HO.later (ze wr _)).appendS [ae e] (some ⟨wr.heap.size,0,none⟩) 1 1 (zaB wr [ae e] _ rfl 48 1 rfl (by omega)) (by have:=o3.out;have:=aK.out;omega) rfl (.tmp 30) (.tmp 38) rfl m o3.out rfl rfl ?_);intro ao8 c8 w8 O8;have eO:=hide O8;clear O8);clear l7 c0;go_roundw
   case rel=>exact ⟨k+1,m+1,ao8,c8,aK.out,by rw [Hm.out];omega,rfl,by simp,by show dX _ _ _ _ _ _ _;rw [HN.out];exact eO⟩
   case measure=>simp [intOf];have:=aK.out;omega
  ·have aX:¬ (k:Int) < (n:Int):=by omega
   obtain ⟨oa,-⟩:=HO.src (by have:=o3.out;omega)
   have HR:Hid (aV wr ap m cc acc):=by have:=o3.out;rw [this] at oa;exact oa
   have aI:=hide HO.below;clear oa HO ak hk;go_wp2_with fail;clear c0

   go_loopw [5,6,7,8,9] (fun i _ _ _ _ wq=>∃ j:Nat,j <= m/\i = .int .i64 (j:Int)/\Hid (Below wr.heap.size wr wq)) (fun i _ _ _ _ _=>m - (intOf i).toNat)
   case atStart=>exact ⟨0,Nat.zero_le _,rfl,Below.refl _ _⟩
   case round =>
    obtain ⟨j,hj,rfl,tT⟩:=hrel
    rename World=>wq
    by_cases iK:j < m
    ·have I4:(j:Int) < (m:Int):=by omega
     obtain ⟨ad,cU,-⟩:=HR.at j iK;subst cU;obtain ⟨d,hd⟩:∃ d,acc.getD j rn0=d:=⟨_,rfl⟩;have tk:Hid (∀ W,Below wr.heap.size wr W -> SwB 1 W c.f):=fun W h=>rM.out W (tmq aI h)
     have Dr:Hid (∀ W,Below wr.heap.size wr W -> (gN (.pointer (some ⟨G,0,none⟩))).run Tryz.prog W = .ok (FaV (mkF c.f)) W/\(ldD (.pointer (some (ad.add (j * 2))))).run Tryz.prog W = .ok (RV d) W):=fun W h=>by
      obtain ⟨ad',nX,A⟩:=(HR.below h).at j iK;obtain rfl:=Option.some.inj nX;rw [hd] at A;exact ⟨kL (HX.below (tmq aI h)).fF,zG A⟩
     have aB:Hid (∀ W,Below wq.heap.size wq W -> (gN (.pointer (some ⟨G,0,none⟩))).run Tryz.prog W = .ok (FaV (mkF c.f)) W/\(ldD (.pointer (some (ad.add (j * 2))))).run Tryz.prog W = .ok (RV d) W):=fun W h=>Dr.out W (tmq tT h);have LN:=hide iK;clear iK hj hd;go_upto_region 11 with fail
     go_cut [6,7] from 46 to 55 (fun u v wx=>∃ (ga:Nat) (t:FtR) (er:Int),u = .pointer (some ⟨ga,0,none⟩)/\v = .int .i64 er/\Hid (aH wx ga t/\Below wq.heap.size wq wx)/\Hid (FaR c.f d t er)/\Hid (wq.heap.size <= ga))
     case first =>
      refine wp_region_held_drew (S:=fun W=>((gN (.pointer (some ⟨G,0,none⟩))).run Tryz.prog W = .ok (FaV (mkF c.f)) W/\(ldD (.pointer (some (ad.add (j * 2))))).run Tryz.prog W = .ok (RV d) W)) (by kernel_rfl) (aB.out _ (zf wq)) (fun hHeld=>?_);obtain ⟨v0,nZ⟩:∃ v,wq.drew=v:=⟨_,rfl⟩
      have nh:Hid (Below wq.heap.size wq v0):=by rw [<- nZ];exact zf wq
      rw [nZ] at hHeld ⊢;clear nZ;refine wU 0 ?_;refine wU 1 ?_;refine wU 2 ?_;refine wU 3 ?_;refine wU 4 ?_;refine wU 5 ?_;refine wpAnyH_ready (rs:=[6,10]) (by kernel_rfl) (by simp) ?_;refine AllReadyH.cons rfl (fun K hK=>?_) (AllReadyH.cons rfl (fun K hK=>?_) AllReadyH.nil)
      ·go_simp;go_wp2_with fail;refine (zbQ 1 c.f d _ (tk.out _ (tmq tT nh))).mono ?_;rintro x v1 ⟨t,er,rfl,bc,ht⟩;have HT:=hide ht;have iH:=wTr nh bc;clear bc ht;refine hK.out _ _ (aB.out _ iH) (fun hHeld=>?_);clear hK K;refine wU 7 ?_;refine wU 8 ?_;refine wU 9 ?_;refine wR 10 fun K hK=>?_;have bA:=ze v1 (.cells (FtC ft0) 52);have XA:=q8 v1 ft0;obtain ⟨ga,mh⟩:∃ g,v1.heap.size=g:=⟨_,rfl⟩;obtain ⟨wA,i8⟩:∃ w,v1.alloc (.cells (FtC ft0) 52)=w:=⟨_,rfl⟩
       have rN:Hid (wq.heap.size <= ga):=by rw [<- mh];exact iH.size
       go_simp;rw [i8] at bA XA;rw [mh] at XA;have gK:=hide XA;have np:Hid (Below wq.heap.size wq wA):=tmq iH bA
       try rw [i8]
       try rw [mh]
       refine hK.out _ _ (aB.out _ np) (fun hHeld=>?_);clear hK K;clear bA XA i8 mh;have A5:=gK.out;have ng:Hid (aH (wA.setRow ga (FtC t)) ga t/\Below wq.heap.size wq (wA.setRow ga (FtC t))):=⟨A5.setRow,zh np.out rN⟩;have st:=qm (m':=t) A5;clear A5;refine wR 11 fun K hK=>?_;go_simp;refine hK.out _ _ (aB.out _ ng.2) (fun hHeld=>?_);clear hK K;clear st;refine wU 12 ?_;refine wD ?_ _;clear hHeld;go_wp2_with fail;go_meet;exact ⟨ga,t,er,rfl,rfl,ng,HT,rN⟩
      ·have bA:=ze v0 (.cells (FtC ft0) 52);have XA:=q8 v0 ft0;obtain ⟨ga,mh⟩:∃ g,v0.heap.size=g:=⟨_,rfl⟩;obtain ⟨wA,i8⟩:∃ w,v0.alloc (.cells (FtC ft0) 52)=w:=⟨_,rfl⟩
       have rN:Hid (wq.heap.size <= ga):=by rw [<- mh];exact nh.size
       go_simp;rw [i8] at bA XA;rw [mh] at XA;have o8:=hide XA;have iH:Hid (Below wq.heap.size wq wA):=tmq nh bA
       try rw [i8]
       try rw [mh]
       refine hK.out _ _ (aB.out _ iH) (fun hHeld=>?_);clear hK K;clear bA XA i8 mh;refine wR 6 fun K hK=>?_;go_simp;go_wp2_with fail;refine (zbQ 1 c.f d _ (tk.out _ (tmq tT iH))).mono ?_;rintro x v2 ⟨t,er,rfl,bc,ht⟩;have HT:=hide ht;have np:=wTr iH bc;have gK:=hide (o8.below bc);clear bc ht;refine hK.out _ _ (aB.out _ np) (fun hHeld=>?_);clear hK K;refine wU 7 ?_;refine wU 8 ?_;refine wU 9 ?_;have A5:=gK.out;have ng:Hid (aH (v2.setRow ga (FtC t)) ga t/\Below wq.heap.size wq (v2.setRow ga (FtC t))):=⟨A5.setRow,zh np.out rN⟩;have st:=qm (m':=t) A5;clear A5;refine wR 11 fun K hK=>?_;go_simp;refine hK.out _ _ (aB.out _ ng.2) (fun hHeld=>?_)
       clear hK K;clear st;refine wU 12 ?_;refine wD ?_ _;clear hHeld;go_wp2_with fail;go_meet;exact ⟨ga,t,er,rfl,rfl,ng,HT,rN⟩
     case rest =>
      obtain ⟨g6,t,er,rfl,rfl,HM,HT,-⟩:=hcut
      rename World=>wx
      have uV:Hid (Below wr.heap.size wr wx):=tmq tT HM.2;have Fu:Hid (aH wx g6 t):=HM.1;clear aB HM;have aB:Hid (∀ W,Below wx.heap.size wx W -> (gN (.pointer (some ⟨G,0,none⟩))).run Tryz.prog W = .ok (FaV (mkF c.f)) W/\(ldD (.pointer (some (ad.add (j * 2))))).run Tryz.prog W = .ok (RV d) W):=fun W h=>Dr.out W (tmq uV h);go_upto_region 12 with fail
      go_cut [8,9] from 56 to 65 (fun u v wy=>∃ (ga:Nat) (t:FtR) (er:Int),u = .pointer (some ⟨ga,0,none⟩)/\v = .int .i64 er/\Hid (aH wy ga t/\Below wx.heap.size wx wy)/\Hid (FaR c.f d t er)/\Hid (wx.heap.size <= ga))
      case first =>
       refine wp_region_held_drew (S:=fun W=>((gN (.pointer (some ⟨G,0,none⟩))).run Tryz.prog W = .ok (FaV (mkF c.f)) W/\(ldD (.pointer (some (ad.add (j * 2))))).run Tryz.prog W = .ok (RV d) W)) (by kernel_rfl) (aB.out _ (zf wx)) (fun hHeld=>?_);obtain ⟨v0,nZ⟩:∃ v,wx.drew=v:=⟨_,rfl⟩
       have nh:Hid (Below wx.heap.size wx v0):=by rw [<- nZ];exact zf wx
       rw [nZ] at hHeld ⊢;clear nZ;refine wU 0 ?_;refine wU 1 ?_;refine wU 2 ?_;refine wU 3 ?_;refine wU 4 ?_;refine wU 5 ?_;refine wpAnyH_ready (rs:=[6,10]) (by kernel_rfl) (by simp) ?_;refine AllReadyH.cons rfl (fun K hK=>?_) (AllReadyH.cons rfl (fun K hK=>?_) AllReadyH.nil)
       ·go_simp;go_wp2_with fail;refine (kP c.f d _ (tk.out _ (tmq uV nh)).ok).mono ?_;rintro x v1 ⟨t,er,rfl,bc,ht⟩;have HT:=hide ht;have iH:=wTr nh bc;clear bc ht;refine hK.out _ _ (aB.out _ iH) (fun hHeld=>?_);clear hK K;refine wU 7 ?_;refine wU 8 ?_;refine wU 9 ?_;refine wR 10 fun K hK=>?_;have bA:=ze v1 (.cells (FtC ft0) 52);have XA:=q8 v1 ft0;obtain ⟨ga,mh⟩:∃ g,v1.heap.size=g:=⟨_,rfl⟩;obtain ⟨wA,i8⟩:∃ w,v1.alloc (.cells (FtC ft0) 52)=w:=⟨_,rfl⟩
        have rN:Hid (wx.heap.size <= ga):=by rw [<- mh];exact iH.size
        go_simp;rw [i8] at bA XA;rw [mh] at XA;have gK:=hide XA;have np:Hid (Below wx.heap.size wx wA):=tmq iH bA
        try rw [i8]
        try rw [mh]
        refine hK.out _ _ (aB.out _ np) (fun hHeld=>?_);clear hK K;clear bA XA i8 mh;have A5:=gK.out;have ng:Hid (aH (wA.setRow ga (FtC t)) ga t/\Below wx.heap.size wx (wA.setRow ga (FtC t))):=⟨A5.setRow,zh np.out rN⟩;have st:=qm (m':=t) A5;clear A5;refine wR 11 fun K hK=>?_;go_simp;refine hK.out _ _ (aB.out _ ng.2) (fun hHeld=>?_);clear hK K;clear st;refine wU 12 ?_;refine wD ?_ _;clear hHeld;go_wp2_with fail;go_meet;exact ⟨ga,t,er,rfl,rfl,ng,HT,rN⟩
       ·have bA:=ze v0 (.cells (FtC ft0) 52);have XA:=q8 v0 ft0;obtain ⟨ga,mh⟩:∃ g,v0.heap.size=g:=⟨_,rfl⟩;obtain ⟨wA,i8⟩:∃ w,v0.alloc (.cells (FtC ft0) 52)=w:=⟨_,rfl⟩
        have rN:Hid (wx.heap.size <= ga):=by rw [<- mh];exact nh.size
        go_simp;rw [i8] at bA XA;rw [mh] at XA;have o8:=hide XA;have iH:Hid (Below wx.heap.size wx wA):=tmq nh bA
        try rw [i8]
        try rw [mh]
        refine hK.out _ _ (aB.out _ iH) (fun hHeld=>?_);clear hK K;clear bA XA i8 mh;refine wR 6 fun K hK=>?_;go_simp;go_wp2_with fail;refine (kP c.f d _ (tk.out _ (tmq uV iH)).ok).mono ?_;rintro x v2 ⟨t,er,rfl,bc,ht⟩;have HT:=hide ht;have np:=wTr iH bc;have gK:=hide (o8.below bc);clear bc ht;refine hK.out _ _ (aB.out _ np) (fun hHeld=>?_);clear hK K;refine wU 7 ?_;refine wU 8 ?_;refine wU 9 ?_;have A5:=gK.out;have ng:Hid (aH (v2.setRow ga (FtC t)) ga t/\Below wx.heap.size wx (v2.setRow ga (FtC t))):=⟨A5.setRow,zh np.out rN⟩;have st:=qm (m':=t) A5;clear A5;refine wR 11 fun K hK=>?_;go_simp;refine hK.out _ _ (aB.out _ ng.2) (fun hHeld=>?_)
        clear hK K;clear st;refine wU 12 ?_;refine wD ?_ _;clear hHeld;go_wp2_with fail;go_meet;exact ⟨ga,t,er,rfl,rfl,ng,HT,rN⟩
      case rest =>
       obtain ⟨g8,t2,er2,rfl,rfl,um,nf,-⟩:=hcut
       rename World=>wy
       obtain ⟨rfl,rfl⟩:=HT.one (tk.out wr (Below.refl _ _)).ok.es.1 nf.out;have Of:Hid (Below wr.heap.size wr wy):=tmq uV um.2;have l5:=jC (Fu.below um.2);have l6:=jC um.1;have he:=zbF t;clear aB;go_wp2_with fail;clear l5 l6 he;go_roundw
       case rel=>exact ⟨j+1,LN.out,by simp,Of.out⟩
       case measure=>simp [intOf];have:=LN.out;omega
    ·have I4:¬ (j:Int) < (m:Int):=by omega
     have cZ:=wTr aI tT.out;have l0:=kL (HX.below cZ).fF;have c5:=(Jp.out _ cZ).2;clear iK hj;go_wp2_with fail;clear l0 c5;refine (zem 1 c.f s _ (rM.out _ cZ) FF.2.2).mono ?_;rintro x w6 ⟨sa,sc,L,er,rfl,SL,hL,b6,Ds⟩;have eC:=wTr cZ b6;have od:=hide SL;have HL:=hide hL;have o5:=hide Ds;have l0:=kL (HX.below eC).fF;have c5:=(Jp.out _ eC).2;clear SL hL b6 Ds;go_wp2_with fail;clear l0 c5;refine (zbg c.f s _ (rM.out _ eC).ok FF.2.2).mono ?_;rintro x w7 ⟨sb,sd,L2,er2,rfl,SM,-,b7,Ds⟩;obtain ⟨rfl,rfl⟩:=o5.one Ds;have dR:=wTr eC b7;have IF:=hide SM;have ID:=hide (od.below b7);clear SM b7 Ds;go_wp2_with fail;refine (yT sa sb sc sd L _ ID.out IF.out HL).mono ?_;rintro x w8 ⟨rfl,b8⟩;have gA:=wTr dR b8
     have l0:=kL (HX.below gA).fF;clear b8;go_wp2_with fail;clear l0;refine (zen 1 (by decide) c.f _ (rM.out _ gA)).mono ?_;rintro x v9 ⟨m1,e1,rfl,b9,E5⟩;obtain ⟨g9,Kb⟩:∃ g,v9.heap.size=g:=⟨_,rfl⟩;obtain ⟨w9,cd,X9,B9,-⟩:=sS v9 m1 g9 Kb;have b99:=tmq b9 B9;have il:=wTr gA b99;have Mu:=hide X9;have ND:=hide E5;have l0:=kL (HX.below il).fF;clear b9 X9 B9 b99 E5;go_wp2_with fail;clear l0 cd Kb;refine (zbh 1 (by decide) c.f _ (rM.out _ il)).mono ?_;rintro x v10 ⟨m2,e2,rfl,b10,o7⟩;obtain ⟨rfl,rfl⟩:=ND.one o7;obtain ⟨g10,Em⟩:∃ g,v10.heap.size=g:=⟨_,rfl⟩;obtain ⟨w10,cd,X10,B10,-⟩:=sS v10 m1 g10 Em;have b1010:=tmq b10 B10;have JC:=wTr il b1010;have l5:=zcZ (Mu.below b1010);have l6:=zcZ X10
     have HE:=wTr al JC.out;clear b10 X10 B10 b1010 o7;go_wp2_with fail;clear cd Em l5 l6;go_ret;exact ⟨rfl,HE.out⟩
end Go.Proofs.YtjffpimfngdggaaGreat
