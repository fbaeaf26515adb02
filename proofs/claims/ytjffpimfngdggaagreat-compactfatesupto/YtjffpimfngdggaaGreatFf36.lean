import Derived.Test.YtjffpimfngdggaaGreatFf35
set_option maxRecDepth 100000
set_option maxHeartbeats 3200000
namespace Go.Proofs.YtjffpimfngdggaaGreat
section
open Go.RowKit
section
attribute [local go_sem ↓] zq zp zY zX K.zy K.zx
attribute [local go_sem] zi zk
theorem AE (L:List K.En) (k:Nat) (h:k < L.length):(L.take (k+1)).map ae=(L.take k).map ae++[ae (L.getD k K.en0)]:=by
 rw [K.xW L k h,List.map_append];rfl
theorem zao (ao:Option Addr) (n cap:Nat) (L:List K.En) (w:World) (hS:K.aD w ao n cap L):Calls Tryz.prog 74 #[.slice ao n cap] w fun x w'=>ct w w' x (af (cq (L.map ae))):=by
 have b1:=ze w (.cells #[.slice none 0 0,.slice none 0 0] 26);have x1:av (w.alloc (.cells #[.slice none 0 0,.slice none 0 0] 26)) w.heap.size pv0:=zm w pv0;obtain ⟨w2,cF⟩:∃ w1,w.alloc (.cells #[.slice none 0 0,.slice none 0 0] 26)=w1:=⟨_,rfl⟩;obtain ⟨g1,cP⟩:∃ g1,w.heap.size=g1:=⟨_,rfl⟩;rw [cF] at b1 x1;rw [cP] at x1;have eS:Hid (av w2 g1 pv0/\K.aD w2 ao n cap L/\w.heap.size=g1):=⟨x1,hS.below b1,cP⟩;have cu:=hide b1;have HL:Hid (L.length=n/\n <= 3518437208883):=⟨hS.1,hS.2.2.2.2⟩;have lL:=HL.2;clear b1 x1 hS;go_enter Tryz.func74,Tryz.ntmps74;go_wp2_with fail;clear cF cP;go_loopw [3,4] (fun v i wr=>∃ (k:Nat) (ap:Option Addr) (c:Nat),k <= n/\v = .slice ap k c/\i = .int .i64 (k:Int)/\Hid (dX w2.heap.size w2.heap.size w2 wr ap c ((L.take k).map ae))) (fun _ i _=>n - (intOf i).toNat)
 case atStart=>exact ⟨0,none,0,Nat.zero_le _,rfl,rfl,World.ownsRow_nil _ _ _ _,Below.refl _ _,Nat.le_refl _,Nat.le_refl _⟩
 case round =>
  obtain ⟨k,ap,c,hk,rfl,rfl,HO⟩:=hrel
  rename World=>wr
  obtain ⟨acc,dG⟩:∃ acc,Hid ((L.take k).map ae=acc):=⟨_,rfl⟩
  have o3:Hid (acc.length=k):=by show _=_;rw [<- dG.out,List.length_map,List.length_take];have:=HL.1;omega
  rw [dG.out] at HO;by_cases ak:k < n
  ·have aX:(k:Int) < (n:Int):=by omega
   obtain ⟨ad,cU,A0⟩:=(eS.2.1.below HO.below).at k ak;subst cU;obtain ⟨e,He⟩:∃ e,Hid (L.getD k K.en0=e):=⟨_,rfl⟩;rw [He.out] at A0
   have HN:Hid ((L.take (k+1)).map ae=acc++[ae e]):=by
    show _=_
    rw [AE L k (by rw [HL.1];exact ak),dG.out,He.out]
   have l7:(ldD (.pointer (some (ad.add (k * 4))))).run Tryz.prog wr = .ok (.agg #[.int .i64 e.rep,.int .i64 e.num]) wr:=zG (r:=⟨e.rep,e.num⟩) ⟨A0.c0,A0.c1⟩;have aK:=hide ak;clear A0 ak hk;go_wp2_with (at_builtin;go_loud (refine (HO.later (ze wr _)).appendS [ae e] (some ⟨wr.heap.size,0,none⟩) 1 1 (zaB wr [ae e] _ rfl 48 1 rfl (by omega)) (by have:=o3.out;have:=aK.out;omega) rfl (.tmp 11) (.tmp 17) rfl k o3.out rfl rfl ?_);intro ao8 c8 w8 O8;have eO:=hide O8;clear O8);clear l7;go_roundw
   case rel=>exact ⟨k+1,ao8,c8,aK.out,rfl,by simp,by show dX _ _ _ _ _ _ _;rw [HN.out];exact eO⟩
   case measure=>simp [intOf];have:=aK.out;omega
  ·have aX:¬ (k:Int) < (n:Int):=by omega
   obtain rfl:k=n:=by omega
   have IT:Hid (acc=L.map ae):=by show _=_;rw [<- dG.out,List.take_of_length_le (by have:=HL.1;omega)]
   obtain ⟨oa,DW⟩:=HO.src (by have:=o3.out;omega)
   have r5:aV wr ap k c acc:=by have:=o3.out;rw [this] at oa;exact oa
   have D5:=hide (zeU ap k c acc wr r5 (by omega));have fl:=wTr cu HO.below;have Ex:=hide (eS.1.below HO.below);have HG:Hid (w.heap.size=g1/\g1 < wr.heap.size):=⟨eS.2.2,Ex.lt⟩;clear oa DW r5;go_wp2_with fail;refine D5.mono ?_;rintro x w8 ⟨p,rfl,S8,n8,b8,c8⟩;have X8:=Ex.below b8;have t8:=qM (p':=p) X8;have gf:Hid (av (w8.setRow g1 (PC p)) g1 p):=setRow_heap _ _ _ _ _ _ X8
   have HE:Hid (am (w8.setRow g1 (PC p)) p/\dA w.heap.size p/\Below w.heap.size w (w8.setRow g1 (PC p))/\af (cq (L.map ae)) p.P):=
    ⟨ji S8 (fun ad h=>setRow_other _ _ _ _ (by have:=n8.1 ad h;have:=HG.out;omega)) (fun ad h=>setRow_other _ _ _ _ (by have:=n8.2 ad h;have:=HG.out;omega)),n8.mono (by have:=HG.out;omega),zh (tmq fl b8) (by have:=HG.out;omega),by rw [<- IT.out];exact c8⟩
   clear S8 n8 b8 c8 X8 D5;go_wp2_with fail;refine bodyPost_ret (AC rfl rfl gf) rfl ?_;exact ⟨p,rfl,HE.out⟩
end
section
attribute [local go_sem ↓] zq zp zE zD zP zO xe je
attribute [local go_sem] zi zk zl zr zv qR xL qF zI
theorem yV (f:Fc) (w:World) (hF:aU w f) (hFo:ar f):Calls Tryz.prog 70 #[FaV (mkF f)] w fun e w'=>ct w w' e (de f):=by
 have lJ:=hide hFo;clear hFo;have b1:=ze w (.cells (FaC (mkF f)) 29);have X1:=zU w (mkF f);obtain ⟨w1,cF⟩:∃ w1,w.alloc (.cells (FaC (mkF f)) 29)=w1:=⟨_,rfl⟩
 have iZ:w1.heap.size=w.heap.size+1:=by rw [<- cF];simp
 rw [cF] at b1 X1;have x2:av (w1.alloc (.cells (PC pv0) 26)) w1.heap.size pv0:=zm w1 pv0;have b2:=ze w1 (.cells (PC pv0) 26);obtain ⟨w2,eH⟩:∃ w2,w1.alloc (.cells (PC pv0) 26)=w2:=⟨_,rfl⟩;rw [eH] at x2 b2;rw [iZ] at x2;obtain ⟨G,cK⟩:∃ G,w.heap.size=G:=⟨_,rfl⟩;rw [cK] at X1 x2 iZ;have HX:=hide (X1.below b2);have HZ:=hide x2;have al:=hide (tmq b1 b2);have HF:=hide (hF.below al);have eX:Hid (w.heap.size=G):=cK;clear hF b1 b2 X1 x2;have aB:Hid (∀ W,aF W G (mkF f) -> W.cell? ⟨G,0,none⟩=some (.slice f.ao f.an f.ac)/\(ldP (.pointer (some ⟨G,1,none⟩))).run Tryz.prog W = .ok (PV f.p) W):=fun W h=>⟨h.cs.1,zj h.past⟩;go_enter Tryz.func70,Tryz.ntmps70;go_upto_region 1 with fail;clear cF eH iZ cK;refine wp_region_held_drew (S:=fun W=>W.cell? ⟨G,0,none⟩=some (.slice f.ao f.an f.ac)/\(ldP (.pointer (some ⟨G,1,none⟩))).run Tryz.prog W = .ok (PV f.p) W) (by kernel_rfl) (aB.out _ (HX.below (zf w2))) (fun hHeld=>?_)
 refine wU 0 ?_;refine wU 1 ?_;refine wU 3 ?_;refine wU 4 ?_;refine wR 2 fun K hK=>?_;go_simp;go_wp2_with fail;refine (zao f.ao f.an f.ac f.es _ (HF.es.below (zf w2))).mono ?_;rintro x w4 ⟨d,rfl,Sd,-,b4,Cd⟩;have aI:=hide ((zf w2).trans (b4.mono (zf w2).size));have HD:=hide Sd;have CZ:=hide Cd;clear Sd Cd b4;refine hK.out _ _ (aB.out _ (HX.below aI)) (fun hHeld=>?_);clear hK K;refine wR 5 fun K hK=>?_;have pR:=sG w4 d f.p HD.out (HF.p.below aI);have b7:=ze w4 (.cells #[.slice d.vo d.vn d.vc,.slice d.co d.cn d.cc,.slice f.p.vo f.p.vn f.p.vc,.slice f.p.co f.p.cn f.p.cc] 26);obtain ⟨w7,pe⟩:∃ w7,w4.alloc (.cells #[.slice d.vo d.vn d.vc,.slice d.co d.cn d.cc,.slice f.p.vo f.p.vn f.p.vc,.slice f.p.co f.p.cn f.p.cc] 26)=w7:=⟨_,rfl⟩
 rw [pe] at pR b7;have DQ:=hide pR;have dR:=wTr aI b7;clear pR b7;go_simp;refine hK.out _ _ (aB.out _ (HX.below dR)) (fun hHeld=>?_);clear hK K;clear pe;refine wR 6 fun K hK=>?_;go_simp;go_wp2_with fail;refine (zcg (some ⟨w4.heap.size,0,none⟩) 2 2 [d,f.p] _ DQ.out (zcF (zT.1 CZ.canon) lJ.2.1) (by decide)).mono ?_;rintro x w8 ⟨q,rfl,S8,n8,b8,C8⟩;have gA:=wTr dR b8
 have hz:G+1+1 <= w7.heap.size:=by have:=HZ.lt;have:=dR.size;omega
 obtain ⟨s1,e1,e2,e3,e4⟩:=qu (w:=w) (HZ.below gA) S8 (n8.mono hz) (tmq al gA) (by rw [eX.out];omega);have df:=hide e1;have Eu:Hid (aF (w8.setRow (G+1) (PC q)) G (mkF f)):=(setRow_other _ _ _ _ (by omega)).trans (HX.below gA)
 have HE:Hid (ct w (w8.setRow (G+1) (PC q)) (.returned (PV q)) (de f)):=⟨q,rfl,e2,e3,e4,zT.1 C8.canon,fun r hr n=>by
  rw [zZ C8 r hr n]
  show mem (aa d.P r++(aa f.p.P r++[])) n↔_
  rw [List.append_nil,mem_append,zZ CZ.out r hr n]⟩
 clear S8 n8 b8 C8 e1 e2 e3 e4 hz;refine hK.out _ _ (aB.out _ (HX.below gA)) (fun hHeld=>?_);clear hK K;refine wR 7 fun K hK=>?_;go_simp;refine hK.out _ _ (aB.out _ Eu) (fun hHeld=>?_);clear hK K;refine wD ?_ _;clear hHeld;go_wp2_with fail;refine bodyPost_ret (AC rfl rfl df) rfl ?_;exact HE.out
end
section
attribute [local go_sem ↓] zq zp zE zD zY zX K.zy K.zx
attribute [local go_sem] zi zk zl zr zv K.zu K.zH
theorem ES (w:World) (f:Fc) (e:K.En):∃ wk,(w.alloc (.cells (FaC (mkF f)) 29)).alloc (.cells (K.EC e) 50)=wk/\Hid (aF wk w.heap.size (mkF f))/\Hid (K.gE wk ⟨w.heap.size+1,0,none⟩ e)/\Hid (Below w.heap.size w wk):=by
 have b1:=ze w (.cells (FaC (mkF f)) 29);have b2:=ze (w.alloc (.cells (FaC (mkF f)) 29)) (.cells (K.EC e) 50);have X2:=K.zQ (w.alloc (.cells (FaC (mkF f)) 29)) 50 e;rw [World.size_alloc] at X2;exact ⟨_,rfl,(zU w (mkF f)).below b2,X2.at,tmq b1 b2⟩
theorem yk (f:Fc) (e:K.En) (w:World) (hF:aU w f):Calls Tryz.prog 118 #[FaV (mkF f),K.EV e] w fun x w'=>x = .returned (.bool (lvB f.p.P f.rs e))/\Below w.heap.size w w':=by
 obtain ⟨wk,aL,HX,HY,al⟩:=ES w f e;obtain ⟨G,cK⟩:∃ G,w.heap.size=G:=⟨_,rfl⟩;rw [cK] at HX HY;have HF:=hide (hF.below al);clear hF;have l0:=zj HX.past;have l1:(ldD (.pointer (some ⟨G+1,0,none⟩))).run Tryz.prog wk = .ok (RV (ae e)) wk:=zG (r:=ae e) ⟨HY.c0,HY.c1⟩;go_enter Tryz.func118,Tryz.ntmps118;go_wp2_with fail;clear aL cK l0 l1;refine (vJ f.p (ae e) _ HF.p).mono ?_;rintro x w3 ⟨y,rfl,hy,b3⟩
 obtain rfl:y=inB f.p.P e:=by rw [Bool.eq_iff_iff,ql];exact hy.out
 have aw:=hide b3;clear hy b3
 cases hi:inB f.p.P e with
 | true =>
  have HE:Hid (false=lvB f.p.P f.rs e):=by show _=_;unfold lvB;rw [hi];rfl
  have iT:=wTr al aw.out;clear hi;go_wp2_with fail;go_ret;exact ⟨by rw [<- HE.out];rfl,iT.out⟩
 | false =>
  have HI:=hide hi;have c3:=(HX.below aw).cs.2;have l2:(K.dJ (.pointer (some ⟨G+1,0,none⟩))).run Tryz.prog w3 = .ok (K.EV e) w3:=K.zB (HY.on aw);clear hi;go_wp2_with fail;clear c3 l2;refine (yp f.ro f.rn f.rc f.rs e _ (HF.below aw).rs).mono ?_;rintro x w4 ⟨rfl,b4⟩;have iT:=hide (tmq al (aw.trans (b4.mono aw.size)));obtain ⟨m,hm⟩:∃ m,f.rs.countP (fun r=>cv r e)=m:=⟨_,rfl⟩
  have HE:Hid (decide ((m:Int)=0)=lvB f.p.P f.rs e):=by
   show _=_
   unfold lvB;rw [HI.out,Bool.not_false,Bool.true_and,Bool.eq_iff_iff,zg9,hm];simp
  rw [hm];clear b4 hm;go_wp2_with fail;go_ret;exact ⟨by rw [<- HE.out];rfl,iT.out⟩
end
section
attribute [local go_sem ↓] zq zp zE zD zY zX K.zy K.zx
attribute [local go_sem] zi zk zl zr zv zz zM zR qp K.zJ K.zu K.zH K.xq
theorem zam (f:Fc) (w:World) (hF:aU w f):Calls Tryz.prog 72 #[FaV (mkF f)] w fun x w'=>LvS w w' x (f.es.filter (lvB f.p.P f.rs)):=by
 have b1:=ze w (.cells (FaC (mkF f)) 29);have X1:=zU w (mkF f);obtain ⟨wk,aL⟩:∃ w1,w.alloc (.cells (FaC (mkF f)) 29)=w1:=⟨_,rfl⟩;rw [aL] at b1 X1;obtain ⟨G,cK⟩:∃ G,w.heap.size=G:=⟨_,rfl⟩;rw [cK] at X1;have HX:=hide X1;have al:=hide b1;have HF:=hide (hF.below b1);clear hF b1 X1;go_enter Tryz.func72,Tryz.ntmps72;obtain ⟨n,hn⟩:∃ n,f.an=n:=⟨_,rfl⟩;obtain ⟨ao,cU⟩:∃ a,f.ao=a:=⟨_,rfl⟩;obtain ⟨ac,oh⟩:∃ a,f.ac=a:=⟨_,rfl⟩
 have HS:Hid (K.aD wk ao n ac f.es):=by rw [<- hn,<- cU,<- oh];exact HF.es
 have rz:Hid (∀ W,Below wk.heap.size wk W -> W.cell? ⟨G,0,none⟩=some (.slice ao n ac)):=fun W h=>by rw [<- hn,<- cU,<- oh];exact (HX.below h).cs.1
 have eT:Hid (f.es.length=n):=HS.1;have lL:=HS.2.2.2.2;go_wp2_with fail;clear hn cU oh aL cK;go_loopw [3,4] (fun v i wr=>∃ (k:Nat) (ap:Option Addr) (c2:Nat) (acc:List K.En),k <= n/\v = .slice ap acc.length c2/\i = .int .i64 (k:Int)/\Hid (acc=(f.es.take k).filter (lvB f.p.P f.rs)/\K.dP wk.heap.size wk.heap.size wk wr ap c2 acc)) (fun _ i _=>n - (intOf i).toNat)
 case atStart=>exact ⟨0,none,0,[],Nat.zero_le _,rfl,rfl,rfl,K.dP.nil (Below.refl _ _) (Nat.le_refl _) (Nat.le_refl _)⟩
 case round =>
  obtain ⟨k,ap,c2,acc,hk,rfl,rfl,HO⟩:=hrel
  rename World=>wr
  have c0:=rz.out _ HO.2.below;by_cases ak:k < n
  ·have aX:(k:Int) < (n:Int):=by omega
   have nJ:acc.length <= k:=by
    rw [HO.1];refine Nat.le_trans (List.length_filter_le _ _) ?_;rw [List.length_take];omega
   have nj:acc.length < 3518437208883:=by omega
   have HT:=hide (mD f.es k (by rw [eT.out];exact ak));obtain ⟨ad,cU,A0⟩:=(HS.below HO.2.below).at k ak;subst cU;obtain ⟨e,He⟩:∃ e,Hid (f.es.getD k K.en0=e):=⟨_,rfl⟩;rw [He.out] at HT;have aK:=hide ak
   have nT:Hid (∀ W,Below wk.heap.size wk W -> K.gE W (ad.add (k * 4)) e):=fun W hW=>by
    obtain ⟨ad',nX,h⟩:=(HS.below hW).at k aK.out;obtain rfl:=Option.some.inj nX;rw [He.out] at h;exact h
   have aB:Hid (∀ W,Below wk.heap.size wk W -> (gN (.pointer (some ⟨G,0,none⟩))).run Tryz.prog W = .ok (FaV (mkF f)) W/\W.cell? ⟨G,0,none⟩=some (.slice (some ad) n ac)/\(K.dJ (.pointer (some (ad.add (k * 4))))).run Tryz.prog W = .ok (K.EV e) W):=fun W hW =>
    ⟨zW (HX.below hW),rz.out _ hW,K.zB (nT.out W hW)⟩
   have p5:=hide (HO.2.later (zf wr));have dG:=hide HO.1;clear A0 ak hk HO;go_upto_region 5 with fail;refine wp_region_held_drew (S:=fun W=>(gN (.pointer (some ⟨G,0,none⟩))).run Tryz.prog W = .ok (FaV (mkF f)) W/\W.cell? ⟨G,0,none⟩=some (.slice (some ad) n ac)/\(K.dJ (.pointer (some (ad.add (k * 4))))).run Tryz.prog W = .ok (K.EV e) W) (by kernel_rfl) (aB.out _ p5.below) (fun hHeld=>?_);refine wU 0 ?_;refine wU 1 ?_;refine wU 2 ?_;refine wU 3 ?_;refine wU 4 ?_;refine wU 5 ?_;refine wR 6 fun K hK=>?_;go_simp;go_wp2_with fail;refine (yk f e _ (HF.below p5.below)).mono ?_;rintro x w5 ⟨rfl,b5⟩;have gv:=hide (p5.later b5);clear b5;refine hK.out _ _ (aB.out _ gv.below) (fun hHeld=>?_);clear hK K;refine wD ?_ _
   clear hHeld;clear c0;obtain ⟨b,hb⟩:∃ b,lvB f.p.P f.rs e=b:=⟨_,rfl⟩;rw [hb]
   have Hf:Hid ((f.es.take (k+1)).filter (lvB f.p.P f.rs)=acc++(if b then [e] else [])):=by
    show _=_
    rw [HT.out,List.filter_append,<- dG.out,List.filter_cons,hb]
    cases b <;> rfl
   clear hb
   cases b with
   | true =>
    have c0:=rz.out _ gv.below;have l6:=K.zB (nT.out _ gv.below);have iJ:=gv;clear gv;go_wp2_with (at_builtin;refine iJ.append e _ rfl nj rfl (.tmp 19) (.tmp 25) rfl acc.length rfl rfl rfl ?_;intro g6 c6 w7 O7 hk7;have fj:=hide O7;clear O7 hk7);clear l6 c0;go_roundw
    case rel=>exact ⟨k+1,some ⟨g6,0,none⟩,c6,acc++[e],aK.out,by simp,by simp,Hf.symm,fj.out⟩
    case measure=>simp [intOf];have:=aK.out;omega
   | false =>
    go_wp2_with fail;go_roundw
    case rel=>exact ⟨k+1,ap,c2,acc,aK.out,rfl,by simp,by rw [Hf.out];simp,gv.out⟩
    case measure=>simp [intOf];have:=aK.out;omega
  ·have aX:¬ (k:Int) < (n:Int):=by omega
   have HE:Hid (LvS w wr (.returned (.slice ap acc.length c2)) (f.es.filter (lvB f.p.P f.rs))):=by
    obtain ⟨h1,h2⟩:=HO.out
    have h3:acc=f.es.filter (lvB f.p.P f.rs):=by rw [h1,List.take_of_length_le (by rw [eT.out];omega)]
    obtain ⟨S9,-⟩:=h2.src (fun e he=>HS.2.2.2.1 e (by rw [h3] at he;exact (List.mem_filter.1 he).1)) (by
     have h4:acc.length <= n:=by rw [h3];exact Nat.le_trans (List.length_filter_le _ _) (Nat.le_of_eq eT)
     omega)
    rw [<- h3];exact ⟨ap,acc.length,c2,rfl,S9,tmq al h2.below⟩
   clear HO;go_wp2_with fail;go_ret;exact HE.out
end
def StB (N:Nat) (w w':World) (x:Ending) (f:Fc):Prop:=∃ s:Fc,x = .returned (FaV (mkF s))/\SwB N w' s/\Below w.heap.size w w'/\StD f s
attribute [local go_sem ↓] zq zp zE zD zP zO xe
attribute [local go_sem] zi zk zl zr zv xL qF zI
theorem yU (N:Nat) (hN:N <= 4) (f:Fc) (w:World) (hS:SwB N w f) (hFo:ar f):Calls Tryz.prog 35 #[FaV (mkF f)] w fun e w'=>StB N w w' e f:=by
 have lJ:=hide hFo;clear hFo;have b1:=ze w (.cells (FaC (mkF f)) 29);have X1:=zU w (mkF f);obtain ⟨w1,cF⟩:∃ w1,w.alloc (.cells (FaC (mkF f)) 29)=w1:=⟨_,rfl⟩
 have iZ:w1.heap.size=w.heap.size+1:=by rw [<- cF];simp
 rw [cF] at b1 X1;have x2:aG (w1.alloc (.cells (FaC (mkF fz0)) 31)) w1.heap.size (mkF fz0):=qs w1 (mkF fz0);have b2:=ze w1 (.cells (FaC (mkF fz0)) 31);obtain ⟨w2,eH⟩:∃ w2,w1.alloc (.cells (FaC (mkF fz0)) 31)=w2:=⟨_,rfl⟩;rw [eH] at x2 b2;rw [iZ] at x2;obtain ⟨G,cK⟩:∃ G,w.heap.size=G:=⟨_,rfl⟩;rw [cK] at X1 x2 iZ;have HX:=hide (X1.below b2);have HZ:=hide x2;have al:=hide (tmq b1 b2);have HS:=hide (hS.below al);have eX:Hid (w.heap.size=G):=cK;clear hS b1 b2 X1 x2;have lf:=zW HX.out;go_enter Tryz.func35,Tryz.ntmps35;go_wp2_with fail;clear cF eH iZ cK lf;refine (yV f _ HS.ok lJ).mono ?_;rintro x wq ⟨p,rfl,Sp,-,bq,He⟩;obtain ⟨g3,pV⟩:∃ g,wq.heap.size=g:=⟨_,rfl⟩;obtain ⟨w3,cd,X3,B3,-⟩:=iP wq p g3 pV;have b23:=tmq bq B3
 have aw:=hide b23;have Au:=hide X3;have mR:=hide (Sp.below B3);have KO:=hide He
 have IE:Hid (G+1 < g3):=by
  have h1:=HZ.lt;have h2:=bq.size
  show G+1 < g3
  omega
 have c3:=(HX.below aw).cs.2
 have lp:=zj Au.at
 clear Sp bq He X3 B3 b23;go_wp2_with fail;clear cd pV c3 lp;refine (zbf f.ro f.rn f.rc f.rs p _ ((HS.ok.row HS.row).below aw) mR.out (by have:=HS.rn;omega)).mono ?_;rintro e w4 (⟨-,-,⟨fo,fn,fc⟩,F,rfl,GF,-,-,b4,WF⟩ | ⟨fR,-,-⟩);rotate_left
 ·exact absurd ⟨lJ.2.2,KO.1⟩ fR
 rw [show HsV ⟨fo,fn,fc⟩=Value.slice fo fn fc from rfl];have aI:=wTr aw b4;have eE:=hide (HX.below aI);have FV:=hide (HZ.below aI);have IC:=hide (Au.below b4);have G3:=hide (mR.below b4);have uv:=hide (HS.below aI);have Dd:=wTr al aI.out;have tA:=hide GF;have ME:=hide WF;have aB:Hid (∀ W,aF W G (mkF f) -> av W g3 p -> (gN (.pointer (some ⟨G,0,none⟩))).run Tryz.prog W = .ok (FaV (mkF f)) W/\(ldP (.pointer (some ⟨g3,0,none⟩))).run Tryz.prog W = .ok (PV p) W):=fun W h k=>⟨zW h,zj k.at⟩;clear GF b4 WF;go_upto_region 3 with fail;refine wp_region_held_drew (S:=fun W=>(gN (.pointer (some ⟨G,0,none⟩))).run Tryz.prog W = .ok (FaV (mkF f)) W/\(ldP (.pointer (some ⟨g3,0,none⟩))).run Tryz.prog W = .ok (PV p) W) (by kernel_rfl) (aB.out _ (eE.below (zf w4)) (IC.below (zf w4))) (fun hHeld=>?_)
 refine wU 0 ?_;refine wU 2 ?_;refine wU 3 ?_;refine wR 1 fun K hK=>?_;go_simp;go_wp2_with fail;refine (zam f _ (uv.ok.below (zf w4))).mono ?_;rintro x w5 ⟨la,ln,lc,rfl,SL,b5⟩;have cZ:=hide ((zf w4).trans (b5.mono (zf w4).size));have A6:=FV.below cZ.out;have st:=xJ (m':=mkF ⟨la,ln,lc,[],p,fo,fn,fc,[]⟩) A6;have df:Hid (aG (w5.setRow (G+1) (FaC (mkF ⟨la,ln,lc,[],p,fo,fn,fc,[]⟩))) (G+1) (mkF ⟨la,ln,lc,f.es.filter (lvB f.p.P f.rs),p,fo,fn,fc,F⟩)):=A6.setRow;have Eu:Hid (aF (w5.setRow (G+1) (FaC (mkF ⟨la,ln,lc,[],p,fo,fn,fc,[]⟩))) G (mkF f)):=(setRow_other _ _ _ _ (by omega)).trans (eE.below cZ);have L5:Hid (av (w5.setRow (G+1) (FaC (mkF ⟨la,ln,lc,[],p,fo,fn,fc,[]⟩))) g3 p):=(setRow_other _ _ _ _ (by have:=IE.out;omega)).trans (IC.below cZ)
 have lH:aU (w5.setRow (G+1) (FaC (mkF ⟨la,ln,lc,[],p,fo,fn,fc,[]⟩))) ⟨la,ln,lc,f.es.filter (lvB f.p.P f.rs),p,fo,fn,fc,F⟩:=aU.offW (f:=⟨la,ln,lc,f.es.filter (lvB f.p.P f.rs),p,fo,fn,fc,F⟩) ⟨SL,G3.below cZ,tA.1.below cZ⟩ A6 _;have Bo:StD f ⟨la,ln,lc,f.es.filter (lvB f.p.P f.rs),p,fo,fn,fc,F⟩:=⟨rfl,KO.out,ME.out⟩
 have HE:Hid (StB N w (w5.setRow (G+1) (FaC (mkF ⟨la,ln,lc,[],p,fo,fn,fc,[]⟩))) (.returned (FaV (mkF ⟨la,ln,lc,f.es.filter (lvB f.p.P f.rs),p,fo,fn,fc,F⟩))) f):=
  ⟨_,rfl,EN uv.out lH ⟨tA.room,tA.nil⟩ Bo,zh (tmq Dd cZ) (by rw [eX.out];omega),Bo⟩
 clear SL b5 A6 lH Bo;refine hK.out _ _ (aB.out _ (eE.below cZ) (IC.below cZ)) (fun hHeld=>?_);clear hK K;refine wU 4 ?_;refine wR 5 fun K hK=>?_;go_simp;refine hK.out _ _ (aB.out _ Eu.out L5) (fun hHeld=>?_);clear hK K;clear st;refine wD ?_ _;clear hHeld;go_wp2_with fail;refine bodyPost_ret (Ck rfl rfl df) rfl ?_;exact HE.out
end
section
open Go.RowKit
def XpI (s h:Fc):Prop:=h.es=s.es/\ag h.p.P/\(∀ e,inB h.p.P e=true↔inB s.p.P e=true/\¬ ∃ y∈s.es,ae y=ae e)/\plR h.rs=plR s.rs
def PrF (f h:Fc) (er:Int):Prop:=(¬ ar f/\er=1/\h=fz0)∨(ar f/\er=0/\∃ s,StD f s/\XpI s h)
def ExF (s h:Fc) (er:Int):Prop:=(¬ aQ s/\er=1/\h=fz0)∨(aQ s/\er=0/\XpI s h)
def SmD (f t:Fc):Prop:=ar f/\∃ s,StD f s/\EqS s t
attribute [local go_sem ↓] zq zp zE zD zP zO
attribute [local go_sem] zi zk zl zr zv
end
section
open Go.RowKit
def LsX (N:Nat) (w w':World) (x:Ending) (s:Fc):Prop:=∃ h:Fc,x = .returned (FaV (mkF h))/\SwB N w' h/\Below w.heap.size w w'/\XpI s h
def FxE (N:Nat) (w w':World) (x:Ending) (D:Fc -> Int -> Prop):Prop:=∃ h er,x = .returned (.tuple #[FaV (mkF h),.int .i64 er])/\SwB N w' h/\Below w.heap.size w w'/\D h er
section
attribute [local go_sem ↓] zq zp zE zD zP zO xz
attribute [local go_sem] zi zk zl zr zv kN
end
attribute [local go_sem ↓] zq zp zE zD zP zO xe xz
attribute [local go_sem] zi zk zI zl zr zv qF qW
end
end Go.Proofs.YtjffpimfngdggaaGreat
