/- TLs TLe TOr -/
import Derived.Test.YtjffpimfngdggaaGreatTk
import Derived.Test.YtjffpimfngdggaaGreatFs41
import Derived.Test.YtjffpimfngdggaaGreatFs39
import Derived.Test.YtjffpimfngdggaaGreatFs18
import Derived.Test.YtjffpimfngdggaaGreatFs33
import Derived.Test.YtjffpimfngdggaaGreatFs38
import Derived.Test.YtjffpimfngdggaaGreatFs37
set_option maxRecDepth 100000
set_option maxHeartbeats 3200000
namespace Go.Proofs.YtjffpimfngdggaaGreat
section
open Go.RowKit Go.Maps Go.Sort
def notIn (M:List K.En) (e:K.En):Bool := !M.any (fun y=>K.eqE y e)
theorem x4 {M:List K.En} {e:K.En}:notIn M e=true↔e ∉ M:=by
 unfold notIn;rw [Bool.not_eq_true',Bool.eq_false_iff,ne_eq,List.any_eq_true];constructor
 ·intro h hm;exact h ⟨e,hm,K.vh e⟩
 ·rintro h ⟨y,hy,hq⟩;rw [(zc5 _ _).1 hq] at hy;exact h hy
theorem zjg {M:List K.En} {e y:K.En} {b:Bool} (hc:K.chk M=0) (h:AoD M (dotE e) y b):notIn M e = !(b && K.eqE y e):=by
 cases b with
 | false =>
  have hn:∀ z∈M,dotE z≠dotE e:=by
   rcases h with ⟨h,-⟩ | ⟨-,-,h⟩
   ·cases h
   ·exact h
  exact x4.2 fun hm=>hn e hm rfl
 | true =>
  obtain ⟨hm,hd⟩:y∈M/\dotE y=dotE e:=by
   rcases h with ⟨-,h⟩ | ⟨h,-⟩
   ·exact h
   ·cases h
  cases hq:K.eqE y e with
  | true =>
   rw [(zc5 _ _).1 hq] at hm
   cases hn:notIn M e with
   | false=>rfl
   | true=>exact absurd hm (x4.1 hn)
  | false =>
   refine x4.2 fun he=>?_;have:=zfh hc he hm (show dotOf e=dotOf y from hd.symm);subst this;rw [K.vh] at hq;cases hq
theorem zds (L:List K.En) (k:Nat) (h:k < L.length):L.take (k+1)=L.take k++[L.getD k K.en0]:=by
 rw [List.take_succ_eq_append_getElem h];simp [List.getD,h]
theorem yO (L:List Rc) (k:Nat) (h:k < L.length):L.take (k+1)=L.take k++[L.getD k rc0]:=by
 rw [List.take_succ_eq_append_getElem h];simp [List.getD,h]
attribute [local go_sem ↓] zD zC qh qg K.zy K.zx qd zZ zr zq zcn
attribute [local go_sem] zl zp zF zQ zW qp K.zJ K.zu K.zH K.xz zI zU qi zi zk
theorem zbk (ao bo:Option Addr) (n c m cb:Nat) (L M:List K.En) (w:World) (hS:K.ESrc w ao n c L) (hR:K.ESrc w bo m cb M) (hc:K.chk M=0) :
  Calls Tryz.prog 129 #[.slice ao n c,.slice bo m cb] w fun x w'=>∃ ap n2 c2,x = .returned (.slice ap n2 c2)/\K.ESrc w' ap n2 c2 (L.filter (notIn M))/\Below w.heap.size w w'/\∀ ad,ap=some ad -> w.heap.size <= ad.block:=by
 have HS:=hide hS;have HR:=hide hR;have HC:=hide hc;have HLn:Hid (L.length=n):=hS.1;have hn:=hS.2.2.2.2;clear hS hR hc;go_enter Tryz.func129,Tryz.ntmps129;go_wp2_with fail;go_loopw [5,12] (fun v i wr=>∃ (k:Nat) (ap:Option Addr) (c2:Nat) (acc:List K.En),k <= n/\v = .slice ap acc.length c2/\i = .int .i64 (k:Int)/\Hid (acc=(L.take k).filter (notIn M)/\K.OwnE w.heap.size w.heap.size w wr ap c2 acc)) (fun _ i _=>n - (intOf i).toNat)
 case atStart=>exact ⟨0,none,0,[],Nat.zero_le _,rfl,rfl,rfl,K.OwnE.nil (Below.refl _ _) (Nat.le_refl _) (Nat.le_refl _)⟩
 case round =>
  obtain ⟨k,ap,c2,acc,hk,rfl,rfl,HO⟩:=hrel
  rename World=>wr
  by_cases hlt:k < n
  ·have hlti:(k:Int) < (n:Int):=by omega
   have hal:acc.length <= k:=by
    rw [HO.out.1];exact Nat.le_trans (List.length_filter_le _ _) (by rw [List.length_take];omega)
   have halb:acc.length < 3518437208883:=by omega
   have HT:=hide (zds L k (by rw [HLn.out];exact hlt));obtain ⟨ad,hao,A0⟩:=(HS.out.below HO.out.2.below).at k hlt;subst hao;obtain ⟨e,He⟩:∃ e,Hid (L.getD k K.en0=e):=⟨_,rfl⟩;rw [He.out] at A0 HT;have hld:=K.zN A0;obtain ⟨g3,hg3⟩:∃ g3,wr.heap.size=g3:=⟨_,rfl⟩;obtain ⟨w3,hst,X3,B3,-⟩:=K.made wr e g3 hg3;have HX3:=hide X3;have HO3:=hide (HO.out.2.later B3);have Hlt:=hide hlt;have Hacc:Hid (acc=(L.take k).filter (notIn M)):=HO.out.1;have ldd:(ldD (.pointer (some ⟨g3,0,none⟩))).run Tryz.prog w3 = .ok (RV (dotE e)) w3:=qm ⟨X3.at.c0,X3.at.c1⟩;clear A0 X3 B3 hlt hk HO;go_wp2_with fail;clear hld hst hg3 ldd;refine (zfE bo m cb M (dotE e) _ (HR.out.below HO3.out.below) HC.out).mono ?_;rintro x w4 ⟨y,b,rfl,hA,b4⟩;have hnot:=zjg HC.out hA;obtain ⟨g5,hg5⟩:∃ g5,w4.heap.size=g5:=⟨_,rfl⟩;obtain ⟨w5,hst,X5,B5,-⟩:=K.made w4 y g5 hg5
   have b35:=b4.trans (B5.mono b4.size);have HO5:=hide (HO3.out.later b35);have HX35:=hide (HX3.out.below b35)
   have l5:=K.zN X5.at
   have l3:=K.zN HX35.out.at
   obtain ⟨q,hq⟩:∃ q,K.eqE y e=q:=⟨_,rfl⟩
   have leq:∀ W:World,(Op.equalIn 10000 50 (K.EV y) (K.EV e)).run Tryz.prog W = .ok q W:=fun W=>by rw [<- hq];exact K.qz y e W
   rw [hq] at hnot;clear hA b4 X5 B5 b35 hq
   have HNo:Hid (notIn M e=false -> acc=(L.take (k+1)).filter (notIn M)):=fun h=>by
    rw [HT.out,List.filter_append,<- Hacc.out,List.filter_cons_of_neg (by simp [h]),List.filter_nil,List.append_nil]
   have HYes:Hid (notIn M e=true -> acc++[e]=(L.take (k+1)).filter (notIn M)):=fun h=>by
    rw [HT.out,List.filter_append,<- Hacc.out,List.filter_cons_of_pos h,List.filter_nil]
   cases b with
   | false =>
    have HN:=hide (HYes.out hnot);clear hnot;go_wp2_with (at_builtin;refine HO5.out.append e _ rfl halb rfl (.tmp 30) (.tmp 32) rfl acc.length rfl rfl rfl ?_;intro g6 c6 w6 O6 hk6;have HO6:=hide O6;clear O6 hk6);clear hst l5 l3 leq hg5;go_roundw
    case rel=>exact ⟨k+1,some ⟨g6,0,none⟩,c6,acc++[e],Hlt.out,by simp,by simp,HN.out,HO6.out⟩
    case measure=>simp [intOf];have:=Hlt.out;omega
   | true =>
    cases q with
    | true =>
     have HN:=hide (HNo.out hnot);clear hnot;go_wp2_with fail;clear hst l5 l3 leq hg5;go_roundw
     case rel=>exact ⟨k+1,ap,c2,acc,Hlt.out,rfl,by simp,HN.out,HO5.out⟩
     case measure=>simp [intOf];have:=Hlt.out;omega
    | false =>
     have HN:=hide (HYes.out hnot);clear hnot;go_wp2_with (at_builtin;refine HO5.out.append e _ rfl halb rfl (.tmp 30) (.tmp 32) rfl acc.length rfl rfl rfl ?_;intro g6 c6 w6 O6 hk6;have HO6:=hide O6;clear O6 hk6);clear hst l5 l3 leq hg5;go_roundw
     case rel=>exact ⟨k+1,some ⟨g6,0,none⟩,c6,acc++[e],Hlt.out,by simp,by simp,HN.out,HO6.out⟩
     case measure=>simp [intOf];have:=Hlt.out;omega
  ·have hlti:¬ (k:Int) < (n:Int):=by omega
   have hacc:acc=L.filter (notIn M):=by rw [HO.out.1,List.take_of_length_le (by rw [HLn.out];omega)]
   obtain ⟨S9,N9⟩:=HO.out.2.src (fun e he=>HS.out.2.2.2.1 e (by rw [hacc] at he;exact (List.mem_filter.1 he).1)) (by
    have h1:acc.length <= L.length:=by rw [hacc];exact List.length_filter_le _ _
    have h2:=HLn.out
    omega)
   have HE:Hid (∃ ap2 n2 c3,Ending.returned (.slice ap acc.length c2) = .returned (.slice ap2 n2 c3)/\K.ESrc wr ap2 n2 c3 (L.filter (notIn M))/\Below w.heap.size w wr/\∀ ad,ap2=some ad -> w.heap.size <= ad.block):=⟨ap,acc.length,c2,rfl,by rw [<- hacc];exact S9,HO.out.2.below,N9⟩;clear S9 N9 hacc;go_wp2_with fail;go_ret;exact HE.out
def notR (M:List Rc) (y:Rp):Prop:=y ∉ plR M
theorem zdO {M:List Rc} {d:Rc} {n i:Nat} {b:Bool} (hs:Srt ck (plR M)) (hl:M.length=n) (hF:FirstC M d n i) (hb:b=true↔i < n/\rcC (M.getD i rc0) d=0):b=true↔rck d∈plR M:=by
 rw [hb];constructor
 ·rintro ⟨h1,h2⟩;rw [<- (jv.eq _ _).1 h2];exact List.mem_map.2 ⟨_,jm (by omega),rfl⟩
 ·intro h;obtain ⟨r,hr,e⟩:=List.mem_map.1 h;obtain ⟨j,hj,rfl⟩:=List.getElem_of_mem hr;have e0:=jN hj
  have h0:rcC (M.getD j rc0) d=0:=by unfold rcC;rw [e0,show rck M[j]=rck d from e];exact (jv.eq _ _).2 rfl
  rcases Nat.lt_trichotomy j i with q | q | q
  ·have:=hF.2.1 j q;omega
  ·subst q;exact ⟨by omega,h0⟩
  ·have h1:=hF.2.2 (by omega)
   have hp:ck (rck (M.getD i rc0)) (rck (M.getD j rc0)) < 0:=by
    unfold Srt at hs;rw [vI,List.pairwise_map,List.pairwise_iff_getElem] at hs;rw [jN (by omega),e0];exact hs i j (by omega) hj q
   have h2:ck (rck (M.getD i rc0)) (rck d) < 0:=jv.lt hp (by unfold rcC at h0;omega);unfold rcC at h1;omega
theorem zgf {M:List Rc} {d:Rc} (hs:Srt ck (plR M)) (a b:Nat) (hab:a <= b) (hb:b < M.length) (hn:rcC (M.getD b rc0) d < 0):rcC (M.getD a rc0) d < 0:=by
 by_cases e:a=b
 ·rw [e];exact hn
 ·unfold Srt at hs;rw [vI,List.pairwise_map,List.pairwise_iff_getElem] at hs;have:=hs a b (by omega) hb (by omega);unfold rcC at hn ⊢;rw [jN (by omega)];rw [jN hb] at hn;exact jv.lt this (by omega)
def LrOf (L M F:List Rc):Prop:=Srt ck (plR F)/\(∀ r∈F,RecOk r)/\∀ y,y∈plR F↔y∈plR L/\y ∉ plR M
structure LrI (L M:List Rc) (k:Nat) (D:List Rc):Prop where
 ok:∀ r∈D,RecOk r
 sub:(plR D).Sublist (plR (L.take k))
 all:∀ y,y∈plR D↔y∈plR (L.take k)/\y ∉ plR M
theorem LrI.start (L M:List Rc):LrI L M 0 []:=⟨fun r h=>(by cases h),List.Sublist.refl _,fun y=>by simp [plR]⟩
theorem LrI.skip {L M D:List Rc} {k:Nat} (h:LrI L M k D) (hk:k < L.length) (hm:rck (L.getD k rc0)∈plR M):LrI L M (k+1) D:=by
 refine ⟨h.ok,?_,fun y=>?_⟩ <;> rw [yO L k hk,yi]
 ·exact h.sub.trans (List.sublist_append_left _ _)
 ·rw [h.all y,List.mem_append,List.mem_singleton];constructor
  ·rintro ⟨q1,q2⟩;exact ⟨.inl q1,q2⟩
  ·rintro ⟨q1 | rfl,q2⟩
   ·exact ⟨q1,q2⟩
   ·exact absurd hm q2
theorem LrI.add {L M D:List Rc} {k:Nat} {c:Rc} (h:LrI L M k D) (hk:k < L.length) (hm:rck (L.getD k rc0) ∉ plR M) (hc:RecOk c) (e:rck c=rck (L.getD k rc0)):LrI L M (k+1) (D++[c]):=by
 refine ⟨jg h.ok hc,?_,fun y=>?_⟩ <;> rw [yO L k hk,yi,yi,e]
 ·exact h.sub.append (List.Sublist.refl _)
 ·rw [List.mem_append,List.mem_append,h.all y,List.mem_singleton];constructor
  ·rintro (⟨q1,q2⟩ | rfl)
   ·exact ⟨.inl q1,q2⟩
   ·exact ⟨.inr rfl,hm⟩
  ·rintro ⟨q1 | rfl,q2⟩
   ·exact .inl ⟨q1,q2⟩
   ·exact .inr rfl
theorem LrI.done {L M D:List Rc} (h:LrI L M L.length D) (hs:Srt ck (plR L)):LrOf L M D:=by
 have h1:=h.sub;have h2:=h.all;rw [List.take_of_length_le (Nat.le_refl _)] at h1 h2;exact ⟨List.Pairwise.sublist h1 hs,h.ok,h2⟩
theorem zbj (ao bo:Option Addr) (n c m cb:Nat) (L M:List Rc) (w:World) (hS:RcS w ao n c L) (hR:RcS w bo m cb M) (hL:OkR L n) (hM:OkR M m) (hb1:n <= 2199023255551) :
  Calls Tryz.prog 131 #[.slice ao n c,.slice bo m cb] w fun x w'=>∃ (h:Hs) (F:List Rc),x = .returned (HsV h)/\GvR w w' h F/\h.n <= n/\LrOf L M F:=by
 have HS:=hide hS;have HR:=hide hR;have HLn:Hid (L.length=n):=hS.len;have HMn:Hid (M.length=m):=hR.len;have HL:=hide (xH.1 (by rw [hS.len];exact hL):(∀ r∈L,RecOk r)/\Srt ck (plR L));have HM:=hide (xH.1 (by rw [hR.len];exact hM):(∀ r∈M,RecOk r)/\Srt ck (plR M));clear hS hR hL hM;go_enter Tryz.func131,Tryz.ntmps131;go_wp2_with fail;go_loopw [5,12] (fun v i wr=>∃ (k:Nat) (h:Hs) (D:List Rc),k <= n/\v = .slice h.o h.n h.c/\i = .int .i64 (k:Int)/\Hid (OwnRc w.heap.size w wr h D/\LrI L M k D/\(∀ r∈D,PNew w.heap.size r.p)/\h.n <= k)) (fun _ i _=>n - (intOf i).toNat)
 case atStart=>exact ⟨0,hs0,[],Nat.zero_le _,rfl,rfl,OwnRc.nil w,LrI.start L M,fun r hr=>(by cases hr),Nat.le_refl _⟩
 case round =>
  obtain ⟨k,h,D,hk,rfl,rfl,HO⟩:=hrel
  rename World=>wr
  by_cases hlt:k < n
  ·have hlti:(k:Int) < (n:Int):=by omega
   obtain ⟨ad,hao,A0⟩:=(HS.out.below HO.out.1.below).at k hlt;have hOk:=(HS.out.below HO.out.1.below).okAt k hlt
   have hkL:k < L.length:=by rw [HLn.out];exact hlt
   have hro:=HL.out.1 _ (jm hkL);subst hao;obtain ⟨r,Hr⟩:∃ r,Hid (L.getD k rc0=r):=⟨_,rfl⟩;rw [Hr.out] at A0 hOk hro;have hld:=zz A0;obtain ⟨g7,hg7⟩:∃ g7,wr.heap.size=g7:=⟨_,rfl⟩;obtain ⟨w7,hst,X7,B7,S7⟩:=madeRe wr (mkR r) g7 hg7;have HO7:=hide (HO.out.1.later B7)
   have HNE:Hid (∀ j,(HsV h).ownBlock=some j -> j < g7):=fun j hj=>by have:=(HO.out.1.own.lt j hj).2;omega
   have HX7:=hide X7;have HQ7:=hide (hOk.below B7);have HRo:=hide hro;have HI:=hide HO.out.2;have HkL:=hide hkL;have Hlt:=hide hlt;have l7:=qH X7;clear A0 X7 B7 S7 hOk hlt hk hkL hro HO;go_wp2_with fail;clear hst hld hg7 l7;refine (ziy bo m cb M r _ (HR.out.below HO7.out.below) HQ7.out (fun x hx=>(HM.out.1 x hx).2.1) HRo.out.2.1 (fun a b hab hb hn=>zgf HM.out.2 a b hab (by rw [HMn.out];exact hb) hn)).mono ?_;rintro x w8 ⟨i,b,rfl,hF,hb,b8⟩;have hin:=zdO HM.out.2 HMn.out hF hb;have HO8:=hide (HO7.out.later b8);have HX8:=hide (HX7.out.below b8);have HQ8:=hide (HQ7.out.below b8);clear hF hb b8
   cases b with
   | true =>
    have HN:=hide (HI.out.1.skip HkL.out (by rw [Hr.out];exact hin.1 rfl));clear hin;go_wp2_with fail;go_roundw
    case rel=>exact ⟨k+1,h,D,Hlt.out,rfl,by simp,HO8.out,HN.out,HI.out.2.1,Nat.le_succ_of_le HI.out.2.2⟩
    case measure=>simp [intOf];have:=Hlt.out;omega
   | false =>
    have HNo:Hid (rck (L.getD k rc0) ∉ plR M):=by rw [Hr.out];exact fun q=>by have:=hin.2 q;cases this
    clear hin;go_upto_region 7 with fail
    have HSt:Hid (∀ W:World,W.heap[g7]? = w8.heap[g7]? -> W.cell? ⟨g7,0,none⟩=some (.string r.s)/\(ldP (.pointer (some ⟨g7,1,none⟩))).run Tryz.prog W = .ok (PV r.p) W):=fun W h=>by
     have X:ReBox W g7 (mkR r):=h.trans HX8.out;exact ⟨X.sk,zj X.past⟩
    refine wp_region_held_drew (S:=fun v=>v.cell? ⟨g7,0,none⟩=some (.string r.s)/\(ldP (.pointer (some ⟨g7,1,none⟩))).run Tryz.prog v = .ok (PV r.p) v) (by kernel_rfl) (HSt.out _ rfl) (fun hHeld=>?_);refine wU 0 ?_;refine wU 1 ?_;refine wU 2 ?_;refine wU 3 ?_;refine wU 4 ?_;refine wpAnyH_ready (rs:=[5]) (by kernel_rfl) (by simp) (.cons rfl (fun K hK=>?_) .nil);go_simp;go_wp2_with fail;refine (jP r.p _ (HQ8.out.1.below (zf w8))).mono ?_;rintro x wa ⟨cp,rfl,Sc,Nc,ba,Cc⟩;have hBa:Below w8.heap.size w8 wa:=(zf w8).trans ba
    have hne:(HsV h).ownBlock≠some g7:=fun e=>by have h1:=HNE.out;have h2:=h1 g7 e;omega
    have za:wa.heap[g7]? = w8.heap[g7]?:=hBa.block g7 HX8.out.lt;have Oa:=HO8.out.later hBa;have hfar:FarH h cp:=fun j hj=>PFar.new Nc (HO8.out.own.lt j hj).2;obtain ⟨gb,cb2,wb,hab,Ob,hkb⟩:=Oa.app ⟨r.s,cp⟩ ⟨Sc,HQ8.out.2⟩ hfar (by have:=HI.out.2.2;have:=Hlt.out;omega);have HAb:Hid ((Builtin.append_ #[27,27] 27 #[.slice h.o h.n h.c,.slice (some ⟨wa.heap.size,0,none⟩) 1 1]).run Tryz.prog (wa.alloc (.cells #[.string r.s,.slice cp.vo cp.vn cp.vc,.slice cp.co cp.cn cp.cc] 78)) = .ok (.slice (some ⟨gb,0,none⟩) (h.n+1) cb2) wb):=hab;have zb:wb.heap[g7]? = w8.heap[g7]?:=(hkb g7 (Nat.lt_of_lt_of_le HX8.out.lt hBa.size) hne).trans za;have hrk:rck ⟨r.s,cp⟩=rck r:=wE HRo.out rfl Cc;have HN:Hid (OwnRc w.heap.size w wb ⟨some ⟨gb,0,none⟩,h.n+1,cb2⟩ (D++[⟨r.s,cp⟩])/\LrI L M (k+1) (D++[⟨r.s,cp⟩])/\(∀ x∈D++[⟨r.s,cp⟩],PNew w.heap.size x.p)/\h.n+1 <= k+1):=⟨Ob,HI.out.1.add HkL.out HNo.out (kQ HRo.out hrk) (by rw [Hr.out];exact hrk),jg HI.out.2.1 (Nc.mono (by have:=HO8.out.below.size;exact this)),by have:=HI.out.2.2;omega⟩
    have HSa:=hide (HSt.out _ za);have HSb:=hide (HSt.out (wa.alloc (.cells #[.string r.s,.slice cp.vo cp.vn cp.vc,.slice cp.co cp.cn cp.cc] 78)) ((Below.heap_alloc wa _ g7 (Nat.lt_of_lt_of_le HX8.out.lt hBa.size)).trans za));have HSc:=hide (HSt.out _ zb);have lbr:∀ W:World,(bldR #[(0,.string r.s),(1,PV cp)]).run Tryz.prog W = .ok (.agg #[.string r.s,.slice cp.vo cp.vn cp.vc,.slice cp.co cp.cn cp.cc]) W:=fun W=>zaY r.s cp W;refine hK.out _ _ HSa.out (fun hHeld=>?_);clear hK K hab Ob Oa hfar Sc Nc ba Cc hBa za zb hkb hne hrk;refine wU 6 ?_;refine wpAnyH_ready (rs:=[7]) (by kernel_rfl) (by simp) (.cons rfl (fun K hK=>?_) .nil);go_simp;refine hK.out _ _ HSb.out (fun hHeld=>?_);clear hK K;refine wpAnyH_ready (rs:=[8]) (by kernel_rfl) (by simp) (.cons rfl (fun K hK=>?_) .nil);refine xB (by rfl) (.tmp 24) (.tmp 31) (by rfl) (by rfl) (by rfl) HAb.out ?_
    refine hK.out _ _ HSc.out (fun hHeld=>?_);clear hK K;refine wpAnyH_ready (rs:=[9]) (by kernel_rfl) (by simp) (.cons rfl (fun K hK=>?_) .nil);go_simp;refine hK.out _ _ HSc.out (fun hHeld=>?_);clear hK K;refine wpAnyH_done (by kernel_rfl) ?_ _;clear hHeld;clear lbr;go_wp2_with fail;go_roundw
    case rel=>exact ⟨k+1,⟨some ⟨gb,0,none⟩,h.n+1,cb2⟩,D++[(⟨r.s,cp⟩:Rc)],Hlt.out,rfl,by simp,HN.out⟩
    case measure=>simp [intOf];have:=Hlt.out;omega
  ·have hlti:¬ (k:Int) < (n:Int):=by omega
   have HE:Hid (∃ (h2:Hs) (F:List Rc),Ending.returned (.slice h.o h.n h.c) = .returned (HsV h2)/\GvR w wr h2 F/\h2.n <= n/\LrOf L M F):=by
    obtain ⟨q1,q2,q3,q4⟩:=HO.out
    obtain rfl:k=n:=by omega
    exact ⟨h,D,rfl,q1.give (Below.refl _ _) q3 (by omega),q4,(by rw [<- HLn.out] at q2;exact q2.done HL.out.2)⟩
   go_wp2_with fail;go_ret;obtain ⟨h2,F,q1,q2,q3,q4⟩:=HE.out
   first | exact ⟨h2,F,q1,q2,q3,q4⟩ | exact ⟨h2,q1,F,q2,q3,q4⟩
end
section
open Go.RowKit
def FcL (w w':World) (e:Ending) (D:Fc -> Prop):Prop:=∃ h,e = .returned (FaV (mkF h))/\FcOk w' h/\FcR h/\FcN w.heap.size h/\Below w.heap.size w w'/\D h
def LeOf (f g h:Fc):Prop:=h.es=f.es.filter (notIn g.es)/\(∃ C:Nat -> List Rn,(∀ r,r < 16 -> MinusOf (runsAt f.p.P r) (runsAt g.p.P r) (C r))/\CanonOf C h.p.P)/\LrOf f.rs g.rs h.rs/\h.rn <= f.rn
def WiOf (f g:Fc):Prop:=(∀ x∈f.es,x∈g.es)/\(∀ r,r < 16 -> ∀ n,mem (runsAt f.p.P r) n -> mem (runsAt g.p.P r) n)/\∀ y∈plR f.rs,y∈plR g.rs
theorem LeOf.e0 {w:World} {f g h:Fc} (H:LeOf f g h) (hw:FcOk w h):h.an=0↔∀ x∈f.es,x∈g.es:=by
 rw [<- hw.es.1,H.1,List.length_eq_zero_iff,List.filter_eq_nil_iff];exact ⟨fun q x hx=>Classical.byContradiction fun hn=>q x hx (x4.2 hn),fun q x hx hn=>x4.1 hn (q x hx)⟩
theorem zgN {w W:World} {g:Nat} {m0:FacV} {f:Fc} (D:Fc -> Prop) (hX:FaBox W g m0) (hF:FcOk W f) (hr:FcR f) (hn:FcN (g+1) f) (hb:Below w.heap.size w W) (hg:w.heap.size <= g) (hD:D f) :
  FaBox (W.setRow g (FaC (mkF f))) g (mkF f)/\FcL w (W.setRow g (FaC (mkF f))) (.returned (FaV (mkF f))) D:=
 ⟨hX.setRow,f,rfl,hF.off2 hn (fun k hk=>setRow_other _ _ _ _ (by omega)),hr,hn.mono (by omega),zh hb hg,hD⟩
attribute [local go_sem ↓] zr zq zD zC xA
attribute [local go_sem] zi zk zl zp zv qW js
theorem zeb (f g:Fc) (w:World) (hF:FcOk w f) (hG:FcOk w g) (hf:FormF f) (hg:FormF g) (hn:f.rn <= 2199023255551) :
  Calls Tryz.prog 78 #[FaV (mkF f),FaV (mkF g)] w fun e w'=>FcL w w' e (LeOf f g):=by
 obtain ⟨w2,hw2,HX2,HY2,HB2⟩:=box2F w f g;have b3:=ze w2 (.cells (FaC (mkF fz0)) 29);have X3:=zY w2 (mkF fz0)
 have hs2:w2.heap.size=w.heap.size+2:=by rw [<- hw2];simp
 obtain ⟨wk,hwk⟩:∃ wk,w2.alloc (.cells (FaC (mkF fz0)) 29)=wk:=⟨_,rfl⟩;rw [hwk] at b3 X3;rw [hs2] at X3;obtain ⟨G,hG0⟩:∃ G,w.heap.size=G:=⟨_,rfl⟩;rw [hG0] at X3 HX2 HY2;have HX:=hide (HX2.out.below b3);have HY:=hide (HY2.out.below b3);have HZ:=hide X3;have HBK:=wTr HB2 b3;have HF:=hide (hF.below HBK.out);have HG:=hide (hG.below HBK.out);have HR:Hid (FormF f/\FormF g/\f.rn <= 2199023255551):=⟨hf,hg,hn⟩;have HGs:Hid (w.heap.size=G):=hG0;have HCg:=hide ((vO hG.es.1).2 hg.1);clear hF hG hf hg hn b3 X3 HX2 HY2 HB2
 have HSt:Hid (∀ W:World,W.heap[G]? = wk.heap[G]? -> W.heap[G+1]? = wk.heap[G+1]? -> (W.cell? ⟨G,0,none⟩=some (.slice f.ao f.an f.ac)/\W.cell? ⟨G,3,none⟩=some (.slice f.ro f.rn f.rc)/\(ldP (.pointer (some ⟨G,1,none⟩))).run Tryz.prog W = .ok (PV f.p) W)/\(W.cell? ⟨G+1,0,none⟩=some (.slice g.ao g.an g.ac)/\W.cell? ⟨G+1,3,none⟩=some (.slice g.ro g.rn g.rc)/\(ldP (.pointer (some ⟨G+1,1,none⟩))).run Tryz.prog W = .ok (PV g.p) W)):=fun W h1 h2=>by
  have X:FaBox W G (mkF f):=h1.trans HX.out;have Y:FaBox W (G+1) (mkF g):=h2.trans HY.out;exact ⟨⟨X.cs.1,X.cs.2,zj X.past⟩,Y.cs.1,Y.cs.2,zj Y.past⟩
 go_enter Tryz.func78,Tryz.ntmps78;go_upto_region 1 with fail;clear hw2 hwk hs2 hG0;refine wp_region_held_drew (S:=fun v=>(v.cell? ⟨G,0,none⟩=some (.slice f.ao f.an f.ac)/\v.cell? ⟨G,3,none⟩=some (.slice f.ro f.rn f.rc)/\(ldP (.pointer (some ⟨G,1,none⟩))).run Tryz.prog v = .ok (PV f.p) v)/\(v.cell? ⟨G+1,0,none⟩=some (.slice g.ao g.an g.ac)/\v.cell? ⟨G+1,3,none⟩=some (.slice g.ro g.rn g.rc)/\(ldP (.pointer (some ⟨G+1,1,none⟩))).run Tryz.prog v = .ok (PV g.p) v)) (by kernel_rfl) (HSt.out _ rfl rfl) (fun hHeld=>?_);refine wU 0 ?_;refine wU 1 ?_;refine wU 2 ?_;refine wU 3 ?_;refine wU 5 ?_;refine wU 6 ?_;refine wU 7 ?_;refine wU 8 ?_;refine wU 10 ?_;refine wU 11 ?_;refine wU 12 ?_;refine wU 13 ?_;refine wpAnyH_ready (rs:=[4]) (by kernel_rfl) (by simp) (.cons rfl (fun K hK=>?_) .nil);go_simp;go_wp2_with fail;have bd:=zf wk
 refine (zbk f.ao g.ao f.an f.ac g.an g.ac f.es g.es _ (HF.out.es.below bd) (HG.out.es.below bd) HCg.out).mono ?_;rintro x wa ⟨ao,n,c,rfl,S4,b4,n4⟩;have ba:=bd.trans (b4.mono bd.size);have HBa:=wTr HBK ba;have HFa:=hide (HF.out.below ba);have HGa:=hide (HG.out.below ba);have HZa:=hide (HZ.out.below ba);have HSa:=hide (HSt.out _ (ba.block G HX.out.lt) (ba.block (G+1) HY.out.lt));have HEa:=hide S4
 have HNa:Hid (∀ ad,ao=some ad -> G+3 <= ad.block):=fun ad e=>by
  have h1:=n4 ad e;have h2:=bd.size;have h3:=HZ.out.lt;omega
 refine hK.out _ _ HSa.out (fun hHeld=>?_);clear hK K S4 b4 n4;refine wpAnyH_ready (rs:=[9]) (by kernel_rfl) (by simp) (.cons rfl (fun K hK=>?_) .nil);go_simp;go_wp2_with fail;refine (jB f.p g.p _ HFa.out.p HGa.out.p).mono ?_;rintro x wb ⟨p,rfl,S5,n5,b5,c5⟩;have bb:=ba.trans (b5.mono ba.size);have HBb:=wTr HBK bb;have HFb:=hide (HF.out.below bb);have HGb:=hide (HG.out.below bb);have HZb:=hide (HZ.out.below bb);have HSb:=hide (HSt.out _ (bb.block G HX.out.lt) (bb.block (G+1) HY.out.lt));have HEb:=hide (HEa.out.below b5);have HPb:=hide S5;have HNb:Hid (PNew (G+3) p):=n5.mono (by have:=HZa.out.lt;omega);have HCb:=hide c5;refine hK.out _ _ HSb.out (fun hHeld=>?_);clear hK K S5 b5 n5 c5;refine wpAnyH_ready (rs:=[14]) (by kernel_rfl) (by simp) (.cons rfl (fun K hK=>?_) .nil);go_simp;go_wp2_with fail;refine (zbj f.ro g.ro f.rn f.rc g.rn g.rc f.rs g.rs _ HFb.out.rs HGb.out.rs HR.out.1.2.2 HR.out.2.1.2.2 HR.out.2.2).mono ?_
 rintro x wc ⟨h5,F5,rfl,G5,m5,U5⟩;have b6:=G5.below;have bc:=bb.trans (b6.mono bb.size);have HBc:=wTr HBK bc;have HZc:=hide (HZ.out.below bc);have HSc:=hide (HSt.out _ (bc.block G HX.out.lt) (bc.block (G+1) HY.out.lt))
 have hz:G+3 <= wb.heap.size:=by have:=HZb.out.lt;omega
 have HEc:=hide (HEb.out.below b6);have HPc:=hide (HPb.out.below b6);have HRc:Hid (RcT wc h5.o h5.n h5.c F5/\(∀ ad,h5.o=some ad -> G+3 <= ad.block)/\(∀ r∈F5,PNew (G+3) r.p)):=⟨G5.row,fun ad e=>Nat.le_trans hz (G5.new ad e),fun r hr=>(G5.fresh r hr).mono hz⟩;have HUc:=hide (And.intro U5 m5);obtain ⟨ho,hn,hc⟩:=h5;rw [show HsV ⟨ho,hn,hc⟩=Value.slice ho hn hc from rfl];have HFc:Hid (FcOk wc ⟨ao,n,c,f.es.filter (notIn g.es),p,ho,hn,hc,F5⟩):=⟨HEc.out,HPc.out,HRc.out.1.src⟩;have HFn:Hid (FcN (G+2+1) ⟨ao,n,c,f.es.filter (notIn g.es),p,ho,hn,hc,F5⟩):=⟨HNa.out,HNb.out,HRc.out.2.1,HRc.out.2.2⟩;have stz:=qG (m':=mkF ⟨ao,n,c,f.es.filter (notIn g.es),p,ho,hn,hc,F5⟩) HZc.out;have HE:=hide (zgN (w:=w) (f:=⟨ao,n,c,f.es.filter (notIn g.es),p,ho,hn,hc,F5⟩) (LeOf f g) HZc.out HFc.out ⟨HRc.out.1.room,HRc.out.1.nil⟩ HFn.out HBc.out (by rw [HGs.out];omega) ⟨rfl,HCb.out,HUc.out.1,HUc.out.2⟩)
 replace stz:(stFa (.pointer (some ⟨G+2,0,none⟩)) (.agg #[.slice ao n c,.slice p.vo p.vn p.vc,.slice p.co p.cn p.cc,.slice ho hn hc])).run Tryz.prog wc = .ok () (wc.setRow (G+2) (FaC (mkF ⟨ao,n,c,f.es.filter (notIn g.es),p,ho,hn,hc,F5⟩))):=stz;have HSz:=hide (HSt.out (wc.setRow (G+2) (FaC (mkF ⟨ao,n,c,f.es.filter (notIn g.es),p,ho,hn,hc,F5⟩))) ((setRow_other _ _ _ _ (by omega)).trans (bc.block G HX.out.lt)) ((setRow_other _ _ _ _ (by omega)).trans (bc.block (G+1) HY.out.lt)));have lbf:∀ W:World,(bldF #[(0,.slice ao n c),(1,PV p),(2,.slice ho hn hc)]).run Tryz.prog W = .ok (.agg #[.slice ao n c,.slice p.vo p.vn p.vc,.slice p.co p.cn p.cc,.slice ho hn hc]) W:=fun W=>js ao ho n c hn hc p W;refine hK.out _ _ HSc.out (fun hHeld=>?_);clear hK K G5 m5 U5 b6 bc bb ba bd hz;refine wU 15 ?_;refine wpAnyH_ready (rs:=[16]) (by kernel_rfl) (by simp) (.cons rfl (fun K hK=>?_) .nil)
 go_simp;refine hK.out _ _ HSz.out (fun hHeld=>?_);clear hK K stz lbf;refine wpAnyH_done (by kernel_rfl) ?_ _;clear hHeld;go_wp2_with fail;refine bodyPost_ret (res1Fa rfl rfl HE.out.1) rfl ?_;exact HE.out.2
def WtD (f g:Fc) (b:Bool) (er:Int):Prop:=(¬ (FormF f/\FormF g)/\b=false/\er=1)∨(FormF f/\FormF g/\er=0/\(b=true↔WiOf f g))
end
section
open Go.RowKit
def LssD (f g h:Fc) (er:Int):Prop:=(¬ (FormF f/\FormF g)/\er=1/\h=fz0)∨(FormF f/\FormF g/\er=0/\LeOf f g h)
attribute [local go_sem ↓] zr zq zD zC xA
attribute [local go_sem] zi zk zl zp zv qW js
theorem zaP (f g:Fc) (w:World) (hF:FcOk w f) (hG:FcOk w g) (hn:f.rn <= 2199023255551) :
  Calls Tryz.prog 39 #[FaV (mkF f),FaV (mkF g)] w fun e w'=>FcD w w' e (LssD f g):=by
 obtain ⟨w2,hw2,HX2,HY2,HB2⟩:=box2F w f g;have b3:=ze w2 (.cells (FaC (mkF fz0)) 29);have X3:=zY w2 (mkF fz0)
 have hs2:w2.heap.size=w.heap.size+2:=by rw [<- hw2];simp
 obtain ⟨wk,hwk⟩:∃ wk,w2.alloc (.cells (FaC (mkF fz0)) 29)=wk:=⟨_,rfl⟩;rw [hwk] at b3 X3;rw [hs2] at X3;obtain ⟨G,hG0⟩:∃ G,w.heap.size=G:=⟨_,rfl⟩;rw [hG0] at X3 HX2 HY2;have HX:=hide (HX2.out.below b3);have HY:=hide (HY2.out.below b3);have HZ:=hide X3;have HBK:=wTr HB2 b3;have HF:=hide (hF.below HBK.out);have HG:=hide (hG.below HBK.out);have HN:=hide hn;have HGs:Hid (w.heap.size=G):=hG0;clear hF hG hn b3 X3 HX2 HY2 HB2;have lf:=zT HX.out;have lg:=zT HY.out;go_enter Tryz.func39,Tryz.ntmps39;go_wp2_with fail;clear hw2 hwk hs2 hG0;refine (zaE f g _ HF.out HG.out).mono ?_;rintro e w3 ⟨x,rfl,hx,b3⟩;have HB3:=wTr HBK b3;have HX3:=hide (HX.out.below b3);have HY3:=hide (HY.out.below b3);have HZ3:=hide (HZ.out.below b3);have HF3:=hide (HF.out.below b3);have HG3:=hide (HG.out.below b3);clear b3 lf lg
 rcases hx with ⟨rfl,h1,h2⟩ | ⟨rfl,h1⟩;rotate_left
 ·have st0:=qG (m':=mkF fz0) HZ3.out;have HE:=hide (ze5 (w:=w) (f:=fz0) (er:=1) (LssD f g) HZ3.out (zcZ _) ze6 (zia _) HB3.out (by rw [HGs.out];omega) (.inl ⟨h1,rfl,rfl⟩));clear h1;go_wp2_with fail;clear st0;refine bodyPost_ret (res2Fb rfl rfl rfl HE.out.1) rfl ?_;exact HE.out.2
 have HFo:Hid (FormF f/\FormF g):=⟨h1,h2⟩;clear h1 h2;have lf:=zT HX3.out;have lg:=zT HY3.out;go_wp2_with fail;clear lf lg;refine (zeb f g _ HF3.out HG3.out HFo.out.1 HFo.out.2 HN.out).mono ?_;rintro e w4 ⟨h,rfl,F4,R4,N4,b4,L4⟩;have HB4:=wTr HB3 b4;have HZ4:=hide (HZ3.out.below b4)
 have hz:G+2+1 <= w3.heap.size:=by have:=HZ3.out.lt;omega
 have stz:=qG (m':=mkF h) HZ4.out;replace stz:(stFa (.pointer (some ⟨G+2,0,none⟩)) (FaV (mkF h))).run Tryz.prog w4 = .ok () (w4.setRow (G+2) (FaC (mkF h))):=stz;have HE:=hide (ze5 (w:=w) (f:=h) (er:=0) (LssD f g) HZ4.out F4 R4 (N4.mono hz) HB4.out (by rw [HGs.out];omega) (.inr ⟨HFo.out.1,HFo.out.2,rfl,L4⟩));clear F4 R4 N4 b4 L4 hz;go_wp2_with fail;clear stz;refine bodyPost_ret (res2Fb rfl rfl rfl HE.out.1) rfl ?_;exact HE.out.2
def ordK (x y:Bool):Int:=if x && y then 0 else if x then 1 else if y then 2 else 3
def OrD (f g:Fc) (k er:Int):Prop:=(¬ (FormF f/\FormF g)/\k=0/\er=1)∨(FormF f/\FormF g/\er=0/\∃ x y:Bool,(x=true↔WiOf f g)/\(y=true↔WiOf g f)/\k=ordK x y)
end
end Go.Proofs.YtjffpimfngdggaaGreat
