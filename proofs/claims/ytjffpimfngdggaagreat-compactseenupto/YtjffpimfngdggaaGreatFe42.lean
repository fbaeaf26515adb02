/- TLs TLe TOr -/
import Derived.Test.YtjffpimfngdggaaGreatTk
import Derived.Test.YtjffpimfngdggaaGreatFe41
import Derived.Test.YtjffpimfngdggaaGreatFe39
import Derived.Test.YtjffpimfngdggaaGreatFe15
import Derived.Test.YtjffpimfngdggaaGreatFe33
import Derived.Test.YtjffpimfngdggaaGreatFe38
import Derived.Test.YtjffpimfngdggaaGreatFe37
set_option maxRecDepth 100000
set_option maxHeartbeats 3200000
namespace Go.Proofs.YtjffpimfngdggaaGreat
section
open Go.RowKit Go.Maps Go.Sort
def dG (M:List K.En) (e:K.En):Bool := !M.any (fun y=>K.eqE y e)
theorem js {M:List K.En} {e:K.En}:dG M e=true↔e ∉ M:=by
 unfold dG;rw [Bool.not_eq_true',Bool.eq_false_iff,ne_eq,List.any_eq_true];constructor
 ·intro h hm;exact h ⟨e,hm,K.kV e⟩
 ·rintro h ⟨y,hy,hq⟩;rw [(zcY _ _).1 hq] at hy;exact h hy
theorem zjf {M:List K.En} {e y:K.En} {b:Bool} (hc:K.chk M=0) (h:AoD M (gV e) y b):dG M e = !(b && K.eqE y e):=by
 cases b with
 | false =>
  have hn:∀ z∈M,gV z≠gV e:=by
   rcases h with ⟨h,-⟩ | ⟨-,-,h⟩
   ·cases h
   ·exact h
  exact js.2 fun hm=>hn e hm rfl
 | true =>
  obtain ⟨hm,hd⟩:y∈M/\gV y=gV e:=by
   rcases h with ⟨-,h⟩ | ⟨h,-⟩
   ·exact h
   ·cases h
  cases hq:K.eqE y e with
  | true =>
   rw [(zcY _ _).1 hq] at hm
   cases hn:dG M e with
   | false=>rfl
   | true=>exact absurd hm (js.1 hn)
  | false =>
   refine js.2 fun he=>?_;have:=ze8 hc he hm (show aa e=aa y from hd.symm);subst this;rw [K.kV] at hq;cases hq
theorem zdh (L:List K.En) (k:Nat) (h:k < L.length):L.take (k+1)=L.take k++[L.getD k K.en0]:=by
 rw [List.take_succ_eq_append_getElem h];simp [List.getD,h]
theorem yH (L:List Rc) (k:Nat) (h:k < L.length):L.take (k+1)=L.take k++[L.getD k rc0]:=by
 rw [List.take_succ_eq_append_getElem h];simp [List.getD,h]
attribute [local go_sem ↓] zB zz zV zU K.zx K.zw zZ zY zq zp zaG
attribute [local go_sem] zk zm zC zN zS ql K.zI K.zt K.zF K.xu zJ zQ qe zi zj
theorem zbg (ao bo:Option Addr) (n c m cb:Nat) (L M:List K.En) (w:World) (hS:K.aD w ao n c L) (hR:K.aD w bo m cb M) (hc:K.chk M=0) :
  Calls Tryz.prog 129 #[.slice ao n c,.slice bo m cb] w fun x w'=>∃ ap n2 c2,x = .returned (.slice ap n2 c2)/\K.aD w' ap n2 c2 (L.filter (dG M))/\Below w.heap.size w w'/\∀ ad,ap=some ad -> w.heap.size <= ad.block:=by
 have HS:=hide hS;have HR:=hide hR;have HC:=hide hc;have gJ:Hid (L.length=n):=hS.1;have hn:=hS.2.2.2.2;clear hS hR hc;go_enter Tryz.func129,Tryz.ntmps129;go_wp2_with fail;go_loopw [5,12] (fun v i wr=>∃ (k:Nat) (ap:Option Addr) (c2:Nat) (acc:List K.En),k <= n/\v = .slice ap acc.length c2/\i = .int .i64 (k:Int)/\Hid (acc=(L.take k).filter (dG M)/\K.dU w.heap.size w.heap.size w wr ap c2 acc)) (fun _ i _=>n - (intOf i).toNat)
 case atStart=>exact ⟨0,none,0,[],Nat.zero_le _,rfl,rfl,rfl,K.dU.nil (Below.refl _ _) (Nat.le_refl _) (Nat.le_refl _)⟩
 case round =>
  obtain ⟨k,ap,c2,acc,hk,rfl,rfl,HO⟩:=hrel
  rename World=>wr
  by_cases ak:k < n
  ·have cL:(k:Int) < (n:Int):=by omega
   have nq:acc.length <= k:=by
    rw [HO.out.1];exact Nat.le_trans (List.length_filter_le _ _) (by rw [List.length_take];omega)
   have Do:acc.length < 3518437208883:=by omega
   have HT:=hide (zdh L k (by rw [gJ.out];exact ak));obtain ⟨ad,eO,A0⟩:=(HS.out.below HO.out.2.below).at k ak;subst eO;obtain ⟨e,He⟩:∃ e,Hid (L.getD k K.en0=e):=⟨_,rfl⟩;rw [He.out] at A0 HT;have dK:=K.zO A0;obtain ⟨g3,DA⟩:∃ g3,wr.heap.size=g3:=⟨_,rfl⟩;obtain ⟨w3,a8,X3,B3,-⟩:=K.made wr e g3 DA;have fL:=hide X3;have lL:=hide (HO.out.2.later B3);have cw:=hide ak;have fK:Hid (acc=(L.take k).filter (dG M)):=HO.out.1;have ldd:(ldD (.pointer (some ⟨g3,0,none⟩))).run Tryz.prog w3 = .ok (RV (gV e)) w3:=zG ⟨X3.at.c0,X3.at.c1⟩;clear A0 X3 B3 ak hk HO;go_wp2_with fail;clear dK a8 DA ldd;refine (zfv bo m cb M (gV e) _ (HR.out.below lL.out.below) HC.out).mono ?_;rintro x w4 ⟨y,b,rfl,hA,b4⟩;have nD:=zjf HC.out hA;obtain ⟨g5,iD⟩:∃ g5,w4.heap.size=g5:=⟨_,rfl⟩;obtain ⟨w5,a8,X5,B5,-⟩:=K.made w4 y g5 iD
   have b35:=b4.trans (B5.mono b4.size);have iq:=hide (lL.out.later b35);have GP:=hide (fL.out.below b35)
   have l5:=K.zO X5.at
   have l3:=K.zO GP.out.at
   obtain ⟨q,hq⟩:∃ q,K.eqE y e=q:=⟨_,rfl⟩
   have leq:∀ W:World,(Op.equalIn 10000 50 (K.EV y) (K.EV e)).run Tryz.prog W = .ok q W:=fun W=>by rw [<- hq];exact K.qz y e W
   rw [hq] at nD;clear hA b4 X5 B5 b35 hq
   have mx:Hid (dG M e=false -> acc=(L.take (k+1)).filter (dG M)):=fun h=>by
    rw [HT.out,List.filter_append,<- fK.out,List.filter_cons_of_neg (by simp [h]),List.filter_nil,List.append_nil]
   have Er:Hid (dG M e=true -> acc++[e]=(L.take (k+1)).filter (dG M)):=fun h=>by
    rw [HT.out,List.filter_append,<- fK.out,List.filter_cons_of_pos h,List.filter_nil]
   cases b with
   | false =>
    have HN:=hide (Er.out nD);clear nD;go_wp2_with (at_builtin;refine iq.out.append e _ rfl Do rfl (.tmp 30) (.tmp 32) rfl acc.length rfl rfl rfl ?_;intro g6 c6 w6 O6 hk6;have lN:=hide O6;clear O6 hk6);clear a8 l5 l3 leq iD;go_roundw
    case rel=>exact ⟨k+1,some ⟨g6,0,none⟩,c6,acc++[e],cw.out,by simp,by simp,HN.out,lN.out⟩
    case measure=>simp [intOf];have:=cw.out;omega
   | true =>
    cases q with
    | true =>
     have HN:=hide (mx.out nD);clear nD;go_wp2_with fail;clear a8 l5 l3 leq iD;go_roundw
     case rel=>exact ⟨k+1,ap,c2,acc,cw.out,rfl,by simp,HN.out,iq.out⟩
     case measure=>simp [intOf];have:=cw.out;omega
    | false =>
     have HN:=hide (Er.out nD);clear nD;go_wp2_with (at_builtin;refine iq.out.append e _ rfl Do rfl (.tmp 30) (.tmp 32) rfl acc.length rfl rfl rfl ?_;intro g6 c6 w6 O6 hk6;have lN:=hide O6;clear O6 hk6);clear a8 l5 l3 leq iD;go_roundw
     case rel=>exact ⟨k+1,some ⟨g6,0,none⟩,c6,acc++[e],cw.out,by simp,by simp,HN.out,lN.out⟩
     case measure=>simp [intOf];have:=cw.out;omega
  ·have cL:¬ (k:Int) < (n:Int):=by omega
   have m7:acc=L.filter (dG M):=by rw [HO.out.1,List.take_of_length_le (by rw [gJ.out];omega)]
   obtain ⟨S9,N9⟩:=HO.out.2.src (fun e he=>HS.out.2.2.2.1 e (by rw [m7] at he;exact (List.mem_filter.1 he).1)) (by
    have h1:acc.length <= L.length:=by rw [m7];exact List.length_filter_le _ _
    have h2:=gJ.out
    omega)
   have HE:Hid (∃ ap2 n2 c3,Ending.returned (.slice ap acc.length c2) = .returned (.slice ap2 n2 c3)/\K.aD wr ap2 n2 c3 (L.filter (dG M))/\Below w.heap.size w wr/\∀ ad,ap2=some ad -> w.heap.size <= ad.block):=⟨ap,acc.length,c2,rfl,by rw [<- m7];exact S9,HO.out.2.below,N9⟩;clear S9 N9 m7;go_wp2_with fail;go_ret;exact HE.out
def No (M:List Rc) (y:Rp):Prop:=y ∉ plR M
theorem zdE {M:List Rc} {d:Rc} {n i:Nat} {b:Bool} (hs:Srt ck (plR M)) (hl:M.length=n) (hF:nO M d n i) (hb:b=true↔i < n/\rcC (M.getD i rc0) d=0):b=true↔rck d∈plR M:=by
 rw [hb];constructor
 ·rintro ⟨h1,h2⟩;rw [<- (jG.eq _ _).1 h2];exact List.mem_map.2 ⟨_,jh (by omega),rfl⟩
 ·intro h;obtain ⟨r,hr,e⟩:=List.mem_map.1 h;obtain ⟨j,hj,rfl⟩:=List.getElem_of_mem hr;have e0:=jM hj
  have h0:rcC (M.getD j rc0) d=0:=by unfold rcC;rw [e0,show rck M[j]=rck d from e];exact (jG.eq _ _).2 rfl
  rcases Nat.lt_trichotomy j i with q | q | q
  ·have:=hF.2.1 j q;omega
  ·subst q;exact ⟨by omega,h0⟩
  ·have h1:=hF.2.2 (by omega)
   have hp:ck (rck (M.getD i rc0)) (rck (M.getD j rc0)) < 0:=by
    unfold Srt at hs;rw [vC,List.pairwise_map,List.pairwise_iff_getElem] at hs;rw [jM (by omega),e0];exact hs i j (by omega) hj q
   have h2:ck (rck (M.getD i rc0)) (rck d) < 0:=jG.lt hp (by unfold rcC at h0;omega);unfold rcC at h1;omega
theorem zf5 {M:List Rc} {d:Rc} (hs:Srt ck (plR M)) (a b:Nat) (dS:a <= b) (hb:b < M.length) (hn:rcC (M.getD b rc0) d < 0):rcC (M.getD a rc0) d < 0:=by
 by_cases e:a=b
 ·rw [e];exact hn
 ·unfold Srt at hs;rw [vC,List.pairwise_map,List.pairwise_iff_getElem] at hs;have:=hs a b (by omega) hb (by omega);unfold rcC at hn ⊢;rw [jM (by omega)];rw [jM hb] at hn;exact jG.lt this (by omega)
def tX (L M F:List Rc):Prop:=Srt ck (plR F)/\(∀ r∈F,cj r)/\∀ y,y∈plR F↔y∈plR L/\y ∉ plR M
structure LrI (L M:List Rc) (k:Nat) (D:List Rc):Prop where
 ok:∀ r∈D,cj r
 sub:(plR D).Sublist (plR (L.take k))
 all:∀ y,y∈plR D↔y∈plR (L.take k)/\y ∉ plR M
theorem LrI.start (L M:List Rc):LrI L M 0 []:=⟨fun r h=>(by cases h),List.Sublist.refl _,fun y=>by simp [plR]⟩
theorem LrI.skip {L M D:List Rc} {k:Nat} (h:LrI L M k D) (hk:k < L.length) (hm:rck (L.getD k rc0)∈plR M):LrI L M (k+1) D:=by
 refine ⟨h.ok,?_,fun y=>?_⟩ <;> rw [yH L k hk,wW]
 ·exact h.sub.trans (List.sublist_append_left _ _)
 ·rw [h.all y,List.mem_append,List.mem_singleton];constructor
  ·rintro ⟨q1,q2⟩;exact ⟨.inl q1,q2⟩
  ·rintro ⟨q1 | rfl,q2⟩
   ·exact ⟨q1,q2⟩
   ·exact absurd hm q2
theorem LrI.add {L M D:List Rc} {k:Nat} {c:Rc} (h:LrI L M k D) (hk:k < L.length) (hm:rck (L.getD k rc0) ∉ plR M) (hc:cj c) (e:rck c=rck (L.getD k rc0)):LrI L M (k+1) (D++[c]):=by
 refine ⟨jc h.ok hc,?_,fun y=>?_⟩ <;> rw [yH L k hk,wW,wW,e]
 ·exact h.sub.append (List.Sublist.refl _)
 ·rw [List.mem_append,List.mem_append,h.all y,List.mem_singleton];constructor
  ·rintro (⟨q1,q2⟩ | rfl)
   ·exact ⟨.inl q1,q2⟩
   ·exact ⟨.inr rfl,hm⟩
  ·rintro ⟨q1 | rfl,q2⟩
   ·exact .inl ⟨q1,q2⟩
   ·exact .inr rfl
theorem LrI.done {L M D:List Rc} (h:LrI L M L.length D) (hs:Srt ck (plR L)):tX L M D:=by
 have h1:=h.sub;have h2:=h.all;rw [List.take_of_length_le (Nat.le_refl _)] at h1 h2;exact ⟨List.Pairwise.sublist h1 hs,h.ok,h2⟩
theorem zbf (ao bo:Option Addr) (n c m cb:Nat) (L M:List Rc) (w:World) (hS:RcS w ao n c L) (hR:RcS w bo m cb M) (hL:OkR L n) (hM:OkR M m) (Ls:n <= 2199023255551) :
  Calls Tryz.prog 131 #[.slice ao n c,.slice bo m cb] w fun x w'=>∃ (h:Hs) (F:List Rc),x = .returned (HsV h)/\GvR w w' h F/\h.n <= n/\tX L M F:=by
 have HS:=hide hS;have HR:=hide hR;have gJ:Hid (L.length=n):=hS.len;have JN:Hid (M.length=m):=hR.len;have HL:=hide (xS.1 (by rw [hS.len];exact hL):(∀ r∈L,cj r)/\Srt ck (plR L));have HM:=hide (xS.1 (by rw [hR.len];exact hM):(∀ r∈M,cj r)/\Srt ck (plR M));clear hS hR hL hM;go_enter Tryz.func131,Tryz.ntmps131;go_wp2_with fail;go_loopw [5,12] (fun v i wr=>∃ (k:Nat) (h:Hs) (D:List Rc),k <= n/\v = .slice h.o h.n h.c/\i = .int .i64 (k:Int)/\Hid (aO w.heap.size w wr h D/\LrI L M k D/\(∀ r∈D,du w.heap.size r.p)/\h.n <= k)) (fun _ i _=>n - (intOf i).toNat)
 case atStart=>exact ⟨0,hs0,[],Nat.zero_le _,rfl,rfl,aO.nil w,LrI.start L M,fun r hr=>(by cases hr),Nat.le_refl _⟩
 case round =>
  obtain ⟨k,h,D,hk,rfl,rfl,HO⟩:=hrel
  rename World=>wr
  by_cases ak:k < n
  ·have cL:(k:Int) < (n:Int):=by omega
   obtain ⟨ad,eO,A0⟩:=(HS.out.below HO.out.1.below).at k ak;have lA:=(HS.out.below HO.out.1.below).okAt k ak
   have IR:k < L.length:=by rw [gJ.out];exact ak
   have GM:=HL.out.1 _ (jh IR);subst eO;obtain ⟨r,Hr⟩:∃ r,Hid (L.getD k rc0=r):=⟨_,rfl⟩;rw [Hr.out] at A0 lA GM;have dK:=zM A0;obtain ⟨g7,fZ⟩:∃ g7,wr.heap.size=g7:=⟨_,rfl⟩;obtain ⟨w7,a8,X7,B7,S7⟩:=fE wr (mkR r) g7 fZ;have fI:=hide (HO.out.1.later B7)
   have GC:Hid (∀ j,(HsV h).ownBlock=some j -> j < g7):=fun j hj=>by have:=(HO.out.1.own.lt j hj).2;omega
   have sE:=hide X7;have Ba:=hide (lA.below B7);have uW:=hide GM;have HI:=hide HO.out.2;have JF:=hide IR;have cw:=hide ak;have l7:=qI X7;clear A0 X7 B7 S7 lA ak hk IR GM HO;go_wp2_with fail;clear a8 dK fZ l7;refine (zix bo m cb M r _ (HR.out.below fI.out.below) Ba.out (fun x hx=>(HM.out.1 x hx).2.1) uW.out.2.1 (fun a b dS hb hn=>zf5 HM.out.2 a b dS (by rw [JN.out];exact hb) hn)).mono ?_;rintro x w8 ⟨i,b,rfl,hF,hb,b8⟩;have lJ:=zdE HM.out.2 JN.out hF hb;have fD:=hide (fI.out.later b8);have fM:=hide (sE.out.below b8);have AE:=hide (Ba.out.below b8);clear hF hb b8
   cases b with
   | true =>
    have HN:=hide (HI.out.1.skip JF.out (by rw [Hr.out];exact lJ.1 rfl));clear lJ;go_wp2_with fail;go_roundw
    case rel=>exact ⟨k+1,h,D,cw.out,rfl,by simp,fD.out,HN.out,HI.out.2.1,Nat.le_succ_of_le HI.out.2.2⟩
    case measure=>simp [intOf];have:=cw.out;omega
   | false =>
    have mx:Hid (rck (L.getD k rc0) ∉ plR M):=by rw [Hr.out];exact fun q=>by have:=lJ.2 q;cases this
    clear lJ;go_upto_region 7 with fail
    have aG:Hid (∀ W:World,W.heap[g7]? = w8.heap[g7]? -> W.cell? ⟨g7,0,none⟩=some (.string r.s)/\(ldP (.pointer (some ⟨g7,1,none⟩))).run Tryz.prog W = .ok (PV r.p) W):=fun W h=>by
     have X:cf W g7 (mkR r):=h.trans fM.out;exact ⟨X.sk,zl X.past⟩
    refine wp_region_held_drew (S:=fun v=>v.cell? ⟨g7,0,none⟩=some (.string r.s)/\(ldP (.pointer (some ⟨g7,1,none⟩))).run Tryz.prog v = .ok (PV r.p) v) (by kernel_rfl) (aG.out _ rfl) (fun hHeld=>?_);refine wU 0 ?_;refine wU 1 ?_;refine wU 2 ?_;refine wU 3 ?_;refine wU 4 ?_;refine wpAnyH_ready (rs:=[5]) (by kernel_rfl) (by simp) (.cons rfl (fun K hK=>?_) .nil);go_simp;go_wp2_with fail;refine (jN r.p _ (AE.out.1.below (zg w8))).mono ?_;rintro x wa ⟨cp,rfl,Sc,Nc,ba,Cc⟩;have nk:Below w8.heap.size w8 wa:=(zg w8).trans ba
    have ch:(HsV h).ownBlock≠some g7:=fun e=>by have h1:=GC.out;have h2:=h1 g7 e;omega
    have za:wa.heap[g7]? = w8.heap[g7]?:=nk.block g7 fM.out.lt;have Oa:=fD.out.later nk;have fN:eC h cp:=fun j hj=>dA.new Nc (fD.out.own.lt j hj).2;obtain ⟨gb,cb2,wb,dS,Ob,oU⟩:=Oa.app ⟨r.s,cp⟩ ⟨Sc,AE.out.2⟩ fN (by have:=HI.out.2.2;have:=cw.out;omega);have oR:Hid ((Builtin.append_ #[27,27] 27 #[.slice h.o h.n h.c,.slice (some ⟨wa.heap.size,0,none⟩) 1 1]).run Tryz.prog (wa.alloc (.cells #[.string r.s,.slice cp.vo cp.vn cp.vc,.slice cp.co cp.cn cp.cc] 78)) = .ok (.slice (some ⟨gb,0,none⟩) (h.n+1) cb2) wb):=dS;have zb:wb.heap[g7]? = w8.heap[g7]?:=(oU g7 (Nat.lt_of_lt_of_le fM.out.lt nk.size) ch).trans za;have iz:rck ⟨r.s,cp⟩=rck r:=wn uW.out rfl Cc;have HN:Hid (aO w.heap.size w wb ⟨some ⟨gb,0,none⟩,h.n+1,cb2⟩ (D++[⟨r.s,cp⟩])/\LrI L M (k+1) (D++[⟨r.s,cp⟩])/\(∀ x∈D++[⟨r.s,cp⟩],du w.heap.size x.p)/\h.n+1 <= k+1):=⟨Ob,HI.out.1.add JF.out mx.out (kH uW.out iz) (by rw [Hr.out];exact iz),jc HI.out.2.1 (Nc.mono (by have:=fD.out.below.size;exact this)),by have:=HI.out.2.2;omega⟩
    have ub:=hide (aG.out _ za);have Cl:=hide (aG.out (wa.alloc (.cells #[.string r.s,.slice cp.vo cp.vn cp.vc,.slice cp.co cp.cn cp.cc] 78)) ((Below.heap_alloc wa _ g7 (Nat.lt_of_lt_of_le fM.out.lt nk.size)).trans za));have BW:=hide (aG.out _ zb);have lbr:∀ W:World,(tO #[(0,.string r.s),(1,PV cp)]).run Tryz.prog W = .ok (.agg #[.string r.s,.slice cp.vo cp.vn cp.vc,.slice cp.co cp.cn cp.cc]) W:=fun W=>wO r.s cp W;refine hK.out _ _ ub.out (fun hHeld=>?_);clear hK K dS Ob Oa fN Sc Nc ba Cc nk za zb oU ch iz;refine wU 6 ?_;refine wpAnyH_ready (rs:=[7]) (by kernel_rfl) (by simp) (.cons rfl (fun K hK=>?_) .nil);go_simp;refine hK.out _ _ Cl.out (fun hHeld=>?_);clear hK K;refine wpAnyH_ready (rs:=[8]) (by kernel_rfl) (by simp) (.cons rfl (fun K hK=>?_) .nil);refine xx (by rfl) (.tmp 24) (.tmp 31) (by rfl) (by rfl) (by rfl) oR.out ?_
    refine hK.out _ _ BW.out (fun hHeld=>?_);clear hK K;refine wpAnyH_ready (rs:=[9]) (by kernel_rfl) (by simp) (.cons rfl (fun K hK=>?_) .nil);go_simp;refine hK.out _ _ BW.out (fun hHeld=>?_);clear hK K;refine wpAnyH_done (by kernel_rfl) ?_ _;clear hHeld;clear lbr;go_wp2_with fail;go_roundw
    case rel=>exact ⟨k+1,⟨some ⟨gb,0,none⟩,h.n+1,cb2⟩,D++[(⟨r.s,cp⟩:Rc)],cw.out,rfl,by simp,HN.out⟩
    case measure=>simp [intOf];have:=cw.out;omega
  ·have cL:¬ (k:Int) < (n:Int):=by omega
   have HE:Hid (∃ (h2:Hs) (F:List Rc),Ending.returned (.slice h.o h.n h.c) = .returned (HsV h2)/\GvR w wr h2 F/\h2.n <= n/\tX L M F):=by
    obtain ⟨q1,q2,q3,q4⟩:=HO.out
    obtain rfl:k=n:=by omega
    exact ⟨h,D,rfl,q1.give (Below.refl _ _) q3 (by omega),q4,(by rw [<- gJ.out] at q2;exact q2.done HL.out.2)⟩
   go_wp2_with fail;go_ret;obtain ⟨h2,F,q1,q2,q3,q4⟩:=HE.out
   first | exact ⟨h2,F,q1,q2,q3,q4⟩ | exact ⟨h2,q1,F,q2,q3,q4⟩
end
section
open Go.RowKit
def FcL (w w':World) (e:Ending) (D:Fc -> Prop):Prop:=∃ h,e = .returned (FaV (mkF h))/\aV w' h/\FcR h/\FcN w.heap.size h/\Below w.heap.size w w'/\D h
def o4 (f g h:Fc):Prop:=h.es=f.es.filter (dG g.es)/\(∃ C:Nat -> List Rn,(∀ r,r < 16 -> cH (ae f.p.P r) (ae g.p.P r) (C r))/\af C h.p.P)/\tX f.rs g.rs h.rs/\h.rn <= f.rn
def BM (f g:Fc):Prop:=(∀ x∈f.es,x∈g.es)/\(∀ r,r < 16 -> ∀ n,mem (ae f.p.P r) n -> mem (ae g.p.P r) n)/\∀ y∈plR f.rs,y∈plR g.rs
theorem o4.e0 {w:World} {f g h:Fc} (H:o4 f g h) (hw:aV w h):h.an=0↔∀ x∈f.es,x∈g.es:=by
 rw [<- hw.es.1,H.1,List.length_eq_zero_iff,List.filter_eq_nil_iff];exact ⟨fun q x hx=>Classical.byContradiction fun hn=>q x hx (js.2 hn),fun q x hx hn=>js.1 hn (q x hx)⟩
theorem zgE {w W:World} {g:Nat} {m0:cq} {f:Fc} (D:Fc -> Prop) (hX:aF W g m0) (hF:aV W f) (hr:FcR f) (hn:FcN (g+1) f) (hb:Below w.heap.size w W) (hg:w.heap.size <= g) (hD:D f) :
  aF (W.setRow g (FaC (mkF f))) g (mkF f)/\FcL w (W.setRow g (FaC (mkF f))) (.returned (FaV (mkF f))) D:=
 ⟨hX.setRow,f,rfl,hF.off2 hn (fun k hk=>setRow_other _ _ _ _ (by omega)),hr,hn.mono (by omega),zh hb hg,hD⟩
attribute [local go_sem ↓] zq zp zB zz xw
attribute [local go_sem] zi zj zk zm zv qR jp
theorem zd1 (f g:Fc) (w:World) (hF:aV w f) (hG:aV w g) (hf:av f) (hg:av g) (hn:f.rn <= 2199023255551) :
  Calls Tryz.prog 78 #[FaV (mkF f),FaV (mkF g)] w fun e w'=>FcL w w' e (o4 f g):=by
 obtain ⟨w2,fi,fB,rg,cg⟩:=rT w f g;have b3:=ze w2 (.cells (FaC (mkF fz0)) 29);have X3:=qi w2 (mkF fz0)
 have mv:w2.heap.size=w.heap.size+2:=by rw [<- fi];simp
 obtain ⟨wk,aY⟩:∃ wk,w2.alloc (.cells (FaC (mkF fz0)) 29)=wk:=⟨_,rfl⟩;rw [aY] at b3 X3;rw [mv] at X3;obtain ⟨G,dF⟩:∃ G,w.heap.size=G:=⟨_,rfl⟩;rw [dF] at X3 fB rg;have HX:=hide (fB.out.below b3);have HY:=hide (rg.out.below b3);have HZ:=hide X3;have aq:=wTr cg b3;have HF:=hide (hF.below aq.out);have HG:=hide (hG.below aq.out);have HR:Hid (av f/\av g/\f.rn <= 2199023255551):=⟨hf,hg,hn⟩;have fU:Hid (w.heap.size=G):=dF;have Mj:=hide ((vG hG.es.1).2 hg.1);clear hF hG hf hg hn b3 X3 fB rg cg
 have aG:Hid (∀ W:World,W.heap[G]? = wk.heap[G]? -> W.heap[G+1]? = wk.heap[G+1]? -> (W.cell? ⟨G,0,none⟩=some (.slice f.ao f.an f.ac)/\W.cell? ⟨G,3,none⟩=some (.slice f.ro f.rn f.rc)/\(ldP (.pointer (some ⟨G,1,none⟩))).run Tryz.prog W = .ok (PV f.p) W)/\(W.cell? ⟨G+1,0,none⟩=some (.slice g.ao g.an g.ac)/\W.cell? ⟨G+1,3,none⟩=some (.slice g.ro g.rn g.rc)/\(ldP (.pointer (some ⟨G+1,1,none⟩))).run Tryz.prog W = .ok (PV g.p) W)):=fun W h1 h2=>by
  have X:aF W G (mkF f):=h1.trans HX.out;have Y:aF W (G+1) (mkF g):=h2.trans HY.out;exact ⟨⟨X.cs.1,X.cs.2,zl X.past⟩,Y.cs.1,Y.cs.2,zl Y.past⟩
 go_enter Tryz.func78,Tryz.ntmps78;go_upto_region 1 with fail;clear fi aY mv dF;refine wp_region_held_drew (S:=fun v=>(v.cell? ⟨G,0,none⟩=some (.slice f.ao f.an f.ac)/\v.cell? ⟨G,3,none⟩=some (.slice f.ro f.rn f.rc)/\(ldP (.pointer (some ⟨G,1,none⟩))).run Tryz.prog v = .ok (PV f.p) v)/\(v.cell? ⟨G+1,0,none⟩=some (.slice g.ao g.an g.ac)/\v.cell? ⟨G+1,3,none⟩=some (.slice g.ro g.rn g.rc)/\(ldP (.pointer (some ⟨G+1,1,none⟩))).run Tryz.prog v = .ok (PV g.p) v)) (by kernel_rfl) (aG.out _ rfl rfl) (fun hHeld=>?_);refine wU 0 ?_;refine wU 1 ?_;refine wU 2 ?_;refine wU 3 ?_;refine wU 5 ?_;refine wU 6 ?_;refine wU 7 ?_;refine wU 8 ?_;refine wU 10 ?_;refine wU 11 ?_;refine wU 12 ?_;refine wU 13 ?_;refine wpAnyH_ready (rs:=[4]) (by kernel_rfl) (by simp) (.cons rfl (fun K hK=>?_) .nil);go_simp;go_wp2_with fail;have bd:=zg wk
 refine (zbg f.ao g.ao f.an f.ac g.an g.ac f.es g.es _ (HF.out.es.below bd) (HG.out.es.below bd) Mj.out).mono ?_;rintro x wa ⟨ao,n,c,rfl,S4,b4,n4⟩;have ba:=bd.trans (b4.mono bd.size);have mR:=wTr aq ba;have CD:=hide (HF.out.below ba);have FJ:=hide (HG.out.below ba);have LO:=hide (HZ.out.below ba);have ub:=hide (aG.out _ (ba.block G HX.out.lt) (ba.block (G+1) HY.out.lt));have LL:=hide S4
 have Jr:Hid (∀ ad,ao=some ad -> G+3 <= ad.block):=fun ad e=>by
  have h1:=n4 ad e;have h2:=bd.size;have h3:=HZ.out.lt;omega
 refine hK.out _ _ ub.out (fun hHeld=>?_);clear hK K S4 b4 n4;refine wpAnyH_ready (rs:=[9]) (by kernel_rfl) (by simp) (.cons rfl (fun K hK=>?_) .nil);go_simp;go_wp2_with fail;refine (jz f.p g.p _ CD.out.p FJ.out.p).mono ?_;rintro x wb ⟨p,rfl,S5,n5,b5,c5⟩;have bb:=ba.trans (b5.mono ba.size);have sX:=wTr aq bb;have L3:=hide (HF.out.below bb);have Fk:=hide (HG.out.below bb);have Dr:=hide (HZ.out.below bb);have Cl:=hide (aG.out _ (bb.block G HX.out.lt) (bb.block (G+1) HY.out.lt));have Lz:=hide (LL.out.below b5);have MX:=hide S5;have MU:Hid (du (G+3) p):=n5.mono (by have:=LO.out.lt;omega);have Li:=hide c5;refine hK.out _ _ Cl.out (fun hHeld=>?_);clear hK K S5 b5 n5 c5;refine wpAnyH_ready (rs:=[14]) (by kernel_rfl) (by simp) (.cons rfl (fun K hK=>?_) .nil);go_simp;go_wp2_with fail;refine (zbf f.ro g.ro f.rn f.rc g.rn g.rc f.rs g.rs _ L3.out.rs Fk.out.rs HR.out.1.2.2 HR.out.2.1.2.2 HR.out.2.2).mono ?_
 rintro x wc ⟨h5,F5,rfl,G5,m5,U5⟩;have b6:=G5.below;have bc:=bb.trans (b6.mono bb.size);have In:=wTr aq bc;have Ct:=hide (HZ.out.below bc);have BW:=hide (aG.out _ (bc.block G HX.out.lt) (bc.block (G+1) HY.out.lt))
 have hz:G+3 <= wb.heap.size:=by have:=Dr.out.lt;omega
 have Mf:=hide (Lz.out.below b6);have LD:=hide (MX.out.below b6);have DN:Hid (RcT wc h5.o h5.n h5.c F5/\(∀ ad,h5.o=some ad -> G+3 <= ad.block)/\(∀ r∈F5,du (G+3) r.p)):=⟨G5.row,fun ad e=>Nat.le_trans hz (G5.new ad e),fun r hr=>(G5.fresh r hr).mono hz⟩;have Dx:=hide (And.intro U5 m5);obtain ⟨ho,hn,hc⟩:=h5;rw [show HsV ⟨ho,hn,hc⟩=Value.slice ho hn hc from rfl];have MO:Hid (aV wc ⟨ao,n,c,f.es.filter (dG g.es),p,ho,hn,hc,F5⟩):=⟨Mf.out,LD.out,DN.out.1.src⟩;have IP:Hid (FcN (G+2+1) ⟨ao,n,c,f.es.filter (dG g.es),p,ho,hn,hc,F5⟩):=⟨Jr.out,MU.out,DN.out.2.1,DN.out.2.2⟩;have stz:=kA (m':=mkF ⟨ao,n,c,f.es.filter (dG g.es),p,ho,hn,hc,F5⟩) Ct.out;have HE:=hide (zgE (w:=w) (f:=⟨ao,n,c,f.es.filter (dG g.es),p,ho,hn,hc,F5⟩) (o4 f g) Ct.out MO.out ⟨DN.out.1.room,DN.out.1.nil⟩ IP.out In.out (by rw [fU.out];omega) ⟨rfl,Li.out,Dx.out.1,Dx.out.2⟩)
 replace stz:(nN (.pointer (some ⟨G+2,0,none⟩)) (.agg #[.slice ao n c,.slice p.vo p.vn p.vc,.slice p.co p.cn p.cc,.slice ho hn hc])).run Tryz.prog wc = .ok () (wc.setRow (G+2) (FaC (mkF ⟨ao,n,c,f.es.filter (dG g.es),p,ho,hn,hc,F5⟩))):=stz;have E3:=hide (aG.out (wc.setRow (G+2) (FaC (mkF ⟨ao,n,c,f.es.filter (dG g.es),p,ho,hn,hc,F5⟩))) ((setRow_other _ _ _ _ (by omega)).trans (bc.block G HX.out.lt)) ((setRow_other _ _ _ _ (by omega)).trans (bc.block (G+1) HY.out.lt)));have lbf:∀ W:World,(lu #[(0,.slice ao n c),(1,PV p),(2,.slice ho hn hc)]).run Tryz.prog W = .ok (.agg #[.slice ao n c,.slice p.vo p.vn p.vc,.slice p.co p.cn p.cc,.slice ho hn hc]) W:=fun W=>jp ao ho n c hn hc p W;refine hK.out _ _ BW.out (fun hHeld=>?_);clear hK K G5 m5 U5 b6 bc bb ba bd hz;refine wU 15 ?_;refine wpAnyH_ready (rs:=[16]) (by kernel_rfl) (by simp) (.cons rfl (fun K hK=>?_) .nil)
 go_simp;refine hK.out _ _ E3.out (fun hHeld=>?_);clear hK K stz lbf;refine wpAnyH_done (by kernel_rfl) ?_ _;clear hHeld;go_wp2_with fail;refine bodyPost_ret (Bz rfl rfl HE.out.1) rfl ?_;exact HE.out.2
def WtD (f g:Fc) (b:Bool) (er:Int):Prop:=(¬ (av f/\av g)/\b=false/\er=1)∨(av f/\av g/\er=0/\(b=true↔BM f g))
end
section
open Go.RowKit
def BP (f g h:Fc) (er:Int):Prop:=(¬ (av f/\av g)/\er=1/\h=fz0)∨(av f/\av g/\er=0/\o4 f g h)
attribute [local go_sem ↓] zq zp zB zz xw
attribute [local go_sem] zi zj zk zm zv qR jp
theorem zd3 (f g:Fc) (w:World) (hF:aV w f) (hG:aV w g) (hn:f.rn <= 2199023255551) :
  Calls Tryz.prog 39 #[FaV (mkF f),FaV (mkF g)] w fun e w'=>FcD w w' e (BP f g):=by
 obtain ⟨w2,fi,fB,rg,cg⟩:=rT w f g;have b3:=ze w2 (.cells (FaC (mkF fz0)) 29);have X3:=qi w2 (mkF fz0)
 have mv:w2.heap.size=w.heap.size+2:=by rw [<- fi];simp
 obtain ⟨wk,aY⟩:∃ wk,w2.alloc (.cells (FaC (mkF fz0)) 29)=wk:=⟨_,rfl⟩;rw [aY] at b3 X3;rw [mv] at X3;obtain ⟨G,dF⟩:∃ G,w.heap.size=G:=⟨_,rfl⟩;rw [dF] at X3 fB rg;have HX:=hide (fB.out.below b3);have HY:=hide (rg.out.below b3);have HZ:=hide X3;have aq:=wTr cg b3;have HF:=hide (hF.below aq.out);have HG:=hide (hG.below aq.out);have HN:=hide hn;have fU:Hid (w.heap.size=G):=dF;clear hF hG hn b3 X3 fB rg cg;have lf:=qy HX.out;have lg:=qy HY.out;go_enter Tryz.func39,Tryz.ntmps39;go_wp2_with fail;clear fi aY mv dF;refine (zaz f g _ HF.out HG.out).mono ?_;rintro e w3 ⟨x,rfl,hx,b3⟩;have aB:=wTr aq b3;have fL:=hide (HX.out.below b3);have Cg:=hide (HY.out.below b3);have tu:=hide (HZ.out.below b3);have rh:=hide (HF.out.below b3);have Nf:=hide (HG.out.below b3);clear b3 lf lg
 rcases hx with ⟨rfl,h1,h2⟩ | ⟨rfl,h1⟩;rotate_left
 ·have st0:=kA (m':=mkF fz0) tu.out;have HE:=hide (zeT (w:=w) (f:=fz0) (er:=1) (BP f g) tu.out (zeV _) zeU (zh9 _) aB.out (by rw [fU.out];omega) (.inl ⟨h1,rfl,rfl⟩));clear h1;go_wp2_with fail;clear st0;refine bodyPost_ret (nK rfl rfl rfl HE.out.1) rfl ?_;exact HE.out.2
 have lB:Hid (av f/\av g):=⟨h1,h2⟩;clear h1 h2;have lf:=qy fL.out;have lg:=qy Cg.out;go_wp2_with fail;clear lf lg;refine (zd1 f g _ rh.out Nf.out lB.out.1 lB.out.2 HN.out).mono ?_;rintro e w4 ⟨h,rfl,F4,R4,N4,b4,L4⟩;have aQ:=wTr aB b4;have JU:=hide (tu.out.below b4)
 have hz:G+2+1 <= w3.heap.size:=by have:=tu.out.lt;omega
 have stz:=kA (m':=mkF h) JU.out;replace stz:(nN (.pointer (some ⟨G+2,0,none⟩)) (FaV (mkF h))).run Tryz.prog w4 = .ok () (w4.setRow (G+2) (FaC (mkF h))):=stz;have HE:=hide (zeT (w:=w) (f:=h) (er:=0) (BP f g) JU.out F4 R4 (N4.mono hz) aQ.out (by rw [fU.out];omega) (.inr ⟨lB.out.1,lB.out.2,rfl,L4⟩));clear F4 R4 N4 b4 L4 hz;go_wp2_with fail;clear stz;refine bodyPost_ret (nK rfl rfl rfl HE.out.1) rfl ?_;exact HE.out.2
def Jg (x y:Bool):Int:=if x && y then 0 else if x then 1 else if y then 2 else 3
def OrD (f g:Fc) (k er:Int):Prop:=(¬ (av f/\av g)/\k=0/\er=1)∨(av f/\av g/\er=0/\∃ x y:Bool,(x=true↔BM f g)/\(y=true↔BM g f)/\k=Jg x y)
end
end Go.Proofs.YtjffpimfngdggaaGreat
