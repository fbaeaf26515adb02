/- SZa -/
import Derived.Test.YtaphmhbmhcahaaaGreatTk
import Derived.Test.YtaphmhbmhcahaaaGreatSj31
import Derived.Test.YtaphmhbmhcahaaaGreatSj28
set_option maxRecDepth 100000
set_option maxHeartbeats 6400000
namespace Go.Proofs.YtaphmhbmhcahaaaGreat
open Go.RowKit
def EnU (A B R:List K.En) (ok:Bool):Prop:=(ok=false/\K.Clash (A++B))∨(ok=true/\¬ K.Clash (A++B)/\K.Asc R/\∀ e,e∈R↔e∈A∨e∈B)
def EnG (w w':World) (x:Ending) (A B:List K.En):Prop:=∃ o q k R ok,x = .returned (.tuple #[.slice o q k,.bool ok])/\K.ESrc w' o q k R/\Below w.heap.size w w'/\EnU A B R ok
theorem enDrop {L:List K.En} {i:Nat} (h:i < L.length):L.drop i=L.getD i K.en0 :: L.drop (i+1):=by
 rw [List.drop_eq_getElem_cons h,List.getD_eq_getElem?_getD,List.getElem?_eq_getElem h];rfl
structure EnM (A B:List K.En) (i j:Nat) (D:List K.En):Prop where
 p:K.Asc (D++A.drop i)
 q:K.Asc (D++B.drop j)
 m:∀ e,(e∈D∨e∈A.drop i∨e∈B.drop j)↔e∈A∨e∈B
 l:D.length <= i+j
theorem EnM.start {A B:List K.En} (ha:K.Asc A) (hb:K.Asc B):EnM A B 0 0 []:=
 ⟨by simpa using ha,by simpa using hb,fun e=>by simp,by simp⟩
theorem EnM.symm {A B D:List K.En} {i j:Nat} (h:EnM A B i j D):EnM B A j i D:=
 ⟨h.q,h.p,fun e=>by have:=h.m e;constructor <;> intro k <;> (have t1:=this.1;have t2:=this.2;grind),by have:=h.l;omega⟩
theorem EnM.left {A B D:List K.En} {i j:Nat} (h:EnM A B i j D) (hi:i < A.length) (hx:∀ y∈B.drop j,K.ahead (A.getD i K.en0) y=true):EnM A B (i+1) j (D++[A.getD i K.en0]):=by
 have e:=enDrop hi;have hp:=h.p;have hq:=h.q;have hm:=h.m;rw [e] at hp hm;unfold K.Asc at hp hq;rw [List.pairwise_append] at hp hq;refine ⟨?_,?_,fun z=>?_,by have:=h.l;rw [List.length_append];simp;omega⟩
 ·unfold K.Asc;rw [List.append_assoc,List.singleton_append,List.pairwise_append];exact hp
 ·unfold K.Asc;rw [List.append_assoc,List.singleton_append,List.pairwise_append];refine ⟨hq.1,List.pairwise_cons.2 ⟨hx,hq.2.1⟩,fun a ha b hb=>?_⟩;rcases List.mem_cons.1 hb with rfl | hb
  ·exact hp.2.2 a ha _ List.mem_cons_self
  ·exact hq.2.2 a ha b hb
 ·rw [<- hm z,List.mem_append,List.mem_singleton,List.mem_cons];constructor
  ·rintro ((k | k) | k | k)
   ·exact .inl k
   ·exact .inr (.inl (.inl k))
   ·exact .inr (.inl (.inr k))
   ·exact .inr (.inr k)
  ·rintro (k | (k | k) | k)
   ·exact .inl (.inl k)
   ·exact .inl (.inr k)
   ·exact .inr (.inl k)
   ·exact .inr (.inr k)
theorem EnM.right {A B D:List K.En} {i j:Nat} (h:EnM A B i j D) (hj:j < B.length) (hx:∀ y∈A.drop i,K.ahead (B.getD j K.en0) y=true):EnM A B i (j+1) (D++[B.getD j K.en0]):=(h.symm.left hj hx).symm
theorem EnM.both {A B D:List K.En} {i j:Nat} (h:EnM A B i j D) (hi:i < A.length) (hj:j < B.length) (he:A.getD i K.en0=B.getD j K.en0):EnM A B (i+1) (j+1) (D++[A.getD i K.en0]):=by
 have e:=enDrop hi;have f:=enDrop hj;have hp:=h.p;have hq:=h.q;have hm:=h.m;rw [e] at hp hm;rw [f,<- he] at hq hm;refine ⟨?_,?_,fun z=>?_,by have:=h.l;rw [List.length_append];simp;omega⟩
 ·rw [List.append_assoc,List.singleton_append];exact hp
 ·rw [List.append_assoc,List.singleton_append];exact hq
 ·rw [<- hm z,List.mem_append,List.mem_singleton,List.mem_cons,List.mem_cons];constructor
  ·rintro ((k | k) | k | k)
   ·exact .inl k
   ·exact .inr (.inl (.inl k))
   ·exact .inr (.inl (.inr k))
   ·exact .inr (.inr (.inr k))
  ·rintro (k | (k | k) | k | k)
   ·exact .inl (.inl k)
   ·exact .inl (.inr k)
   ·exact .inr (.inl k)
   ·exact .inl (.inr k)
   ·exact .inr (.inr k)
theorem EnM.head {A B D:List K.En} {i j:Nat} {x:K.En} (h:EnM A B i j D) (hj:j < B.length) (hx:K.ahead x (B.getD j K.en0)=true):∀ y∈B.drop j,K.ahead x y=true:=by
 have hq:=h.q;rw [enDrop hj] at hq ⊢;unfold K.Asc at hq;rw [List.pairwise_append] at hq;intro y hy;rcases List.mem_cons.1 hy with rfl | hy
 ·exact hx
 ·exact K.ahead_trans hx ((List.pairwise_cons.1 hq.2.1).1 y hy)
theorem EnM.none {B : List K.En} {j : Nat} {x : K.En} (hj:j=B.length):∀ y∈B.drop j,K.ahead x y=true:=fun y hy=>by
 rw [hj,List.drop_length] at hy;cases hy
theorem EnM.done {A B D:List K.En} {i j:Nat} (h:EnM A B i j D) (hi:i=A.length) (hj:j=B.length):EnU A B D true:=by
 have hp:=h.p;have hm:=h.m;rw [hi,List.drop_length,List.append_nil] at hp
 have h2:∀ e,e∈D↔e∈A∨e∈B:=fun e=>by
  rw [<- hm e,hi,hj,List.drop_length,List.drop_length];simp
 exact .inr ⟨rfl,K.asc_noclash hp fun e=>by rw [h2 e,List.mem_append],hp,h2⟩
theorem dot_same {x y:K.En} (h1:K.ahead x y=false) (h2:K.ahead y x=false):K.sameDot x y=true:=by
 unfold K.ahead at h1 h2;unfold K.sameDot;rw [Bool.or_eq_false_iff,decide_eq_false_iff_not,Bool.and_eq_false_iff] at h1 h2
 have e:x.rep=y.rep:=by omega
 have h3:=h1.2;have h4:=h2.2;rw [beq_eq_false_iff_ne,decide_eq_false_iff_not] at h3 h4
 have:x.num=y.num:=by
  rcases h3 with h3 | h3
  ·exact absurd e h3
  ·rcases h4 with h4 | h4
   ·exact absurd e.symm h4
   ·omega
 rw [e,this];simp
theorem getEn_in {L:List K.En} {k:Nat} (h:k < L.length):L.getD k K.en0∈L:=by
 rw [List.getD_eq_getElem?_getD,List.getElem?_eq_getElem h];exact List.getElem_mem h
theorem enu_clash {A B:List K.En} {i j:Nat} (hi:i < A.length) (hj:j < B.length) (hs:K.sameDot (A.getD i K.en0) (B.getD j K.en0)=true) (hn:A.getD i K.en0≠B.getD j K.en0):EnU A B [] false:=
 .inl ⟨rfl,A.getD i K.en0,List.mem_append.2 (.inl (getEn_in hi)),B.getD j K.en0,List.mem_append.2 (.inr (getEn_in hj)),hs,hn⟩
attribute [local go_sem ↓] ldD_eq stD_eq K.ld28_eq K.st28_eq
attribute [local go_sem] cells_RV RC_size zero_RC fold_RC K.zero_EC K.cells_EV K.EC_size K.fold_EC
theorem refEntries11_any (ao bo:Option Addr) (n c m d:Nat) (A B:List K.En) (w:World) (hA:K.ESrc w ao n c A) (hB:K.ESrc w bo m d B) (hx:K.chk A=0) (hy:K.chk B=0):Calls Tryz.prog 60 #[.slice ao n c,.slice bo m d] w fun x w'=>EnG w w' x A B:=by
 have HA:=hide hA;have HB:=hide hB;have HLa:Hid (A.length=n):=hA.1;have HLb:Hid (B.length=m):=hB.1
 have hna:n <= 16000000000:=by rw [<- hA.1];exact K.chk_len hx
 have hnb:m <= 16000000000:=by rw [<- hB.1];exact K.chk_len hy
 have HM0:Hid (EnM A B 0 0 []):=EnM.start (K.chk_asc' hx) (K.chk_asc' hy);have Hsk:Hid (∀ e,e∈A∨e∈B -> e.sku.size <= maxLen):=fun e h=>h.elim (hA.2.2.2.1 e) (hB.2.2.2.1 e);clear hA hB hx hy;go_enter Tryz.func60,Tryz.ntmps60;go_wp2_with fail;go_loopw [6,7,8] (fun v vi vj wr=>∃ (i j:Nat) (ap:Option Addr) (c2:Nat) (D:List K.En),i <= n/\j <= m/\v = .slice ap D.length c2/\vi = .int .i64 (i:Int)/\vj = .int .i64 (j:Int)/\Hid (EnM A B i j D/\K.OwnE w.heap.size w.heap.size w wr ap c2 D)) (fun _ vi vj _=>(n - (intOf vi).toNat)+(m - (intOf vj).toNat))
 case atStart=>exact ⟨0,0,none,0,[],Nat.zero_le _,Nat.zero_le _,rfl,rfl,rfl,HM0.out,K.OwnE.nil (Below.refl _ _) (Nat.le_refl _) (Nat.le_refl _)⟩
 case round =>
  obtain ⟨i,j,ap,c2,D,hi,hj,rfl,rfl,rfl,HO⟩:=hrel
  rename World=>wr
  clear HM0
  have halb:D.length < 3518437208883:=by have:=HO.out.1.l;omega
  by_cases h1:i < n
  ·by_cases h2:j < m
   ·obtain ⟨ad,hao,-⟩:=HA.out.at i h1;subst hao;obtain ⟨x,Hx⟩:∃ x,Hid (A.getD i K.en0=x):=⟨_,rfl⟩
    have HEx:Hid (∀ W,Below wr.heap.size wr W -> K.EnAt W (ad.add (i * 4)) x):=fun W hW=>by
     obtain ⟨ad',e',h⟩:=((HA.out.below HO.out.2.below).below hW).at i h1;obtain rfl:=Option.some.inj e';rw [Hx.out] at h;exact h
    obtain ⟨bd,hbo,-⟩:=HB.out.at j h2;subst hbo;obtain ⟨y,Hy⟩:∃ y,Hid (B.getD j K.en0=y):=⟨_,rfl⟩
    have HEy:Hid (∀ W,Below wr.heap.size wr W -> K.EnAt W (bd.add (j * 4)) y):=fun W hW=>by
     obtain ⟨bd',e',h⟩:=((HB.out.below HO.out.2.below).below hW).at j h2;obtain rfl:=Option.some.inj e';rw [Hy.out] at h;exact h
    have HSt:Hid (∀ W,Below wr.heap.size wr W -> (ldD (.pointer (some (ad.add (i * 4))))).run Tryz.prog W = .ok (RV (dotOf x)) W/\(ldD (.pointer (some (bd.add (j * 4))))).run Tryz.prog W = .ok (RV (dotOf y)) W):=fun W hW=>by
     have A1:=HEx.out W hW;have B1:=HEy.out W hW;exact ⟨run_ldD (r:=dotOf x) ⟨A1.c0,A1.c1⟩,run_ldD (r:=dotOf y) ⟨B1.c0,B1.c1⟩⟩
    have i1:(i:Int) < (n:Int):=by omega
    have i2:(j:Int) < (m:Int):=by omega
    have e1:((i:Int) == (n:Int))=false:=by simp;omega
    have e2:((j:Int) == (m:Int))=false:=by simp;omega
    have Hlt:Hid (i < n/\j < m):=⟨h1,h2⟩;clear h1 h2;go_upto_region 9 with fail;refine wp_region_held_drew (S:=fun W=>(ldD (.pointer (some (ad.add (i * 4))))).run Tryz.prog W = .ok (RV (dotOf x)) W/\(ldD (.pointer (some (bd.add (j * 4))))).run Tryz.prog W = .ok (RV (dotOf y)) W) (by kernel_rfl) (HSt.out _ (below_drew1 wr)) (fun hHeld=>?_);refine wU 0 ?_;refine wU 1 ?_;refine wU 2 ?_;refine wU 3 ?_;refine wU 4 ?_;refine wU 5 ?_;refine wU 6 ?_;refine wU 7 ?_;refine wU 8 ?_;refine wU 9 ?_;refine wU 10 ?_;refine wU 11 ?_;refine wU 12 ?_;refine wU 13 ?_;refine wU 14 ?_;refine wU 15 ?_;refine wU 16 ?_;refine wU 17 ?_;refine wU 18 ?_;refine wU 19 ?_;refine wpAnyH_ready (rs:=[20]) (by kernel_rfl) (by simp) (.cons rfl (fun K hK=>?_) .nil);go_simp;go_wp2_with fail;refine (Go.Proofs.YtaphmhbmhcahaaaGreat.K.refBefore_any x y _).mono ?_;rintro e w4 ⟨rfl,b4⟩
    have HB4:Hid (Below wr.heap.size wr w4):=(below_drew1 wr).trans b4;refine hK.out _ _ (HSt.out _ HB4.out) (fun hHeld=>?_);clear hK K b4
    cases hxy:K.ahead x y with
    | true =>
     have HN:Hid (EnM A B (i+1) j (D++[x])):=by
      have h:=HO.out.1.left (by rw [HLa.out];exact Hlt.out.1) (HO.out.1.head (by rw [HLb.out];exact Hlt.out.2) (by rw [Hx.out,Hy.out];exact hxy));rw [Hx.out] at h;exact h
     clear hxy;refine wU 21 ?_;refine wU 22 ?_;refine wU 23 ?_;refine wpAnyH_done (by kernel_rfl) ?_ _;clear hHeld;obtain ⟨wz,hwz⟩:∃ wz,w4=wz:=⟨_,rfl⟩;subst hwz;have hld:=K.run_ld28 (HEx.out _ HB4.out);have HBw:=HB4;go_wp2_with (at_builtin;refine (HO.out.2.later HBw.out).append x _ rfl halb rfl (.tmp 63) (.tmp 68) rfl D.length rfl rfl rfl ?_;intro g6 c6 w7 O7 hk7;have HO7:=hide O7;clear O7 hk7);clear hld;go_roundw
     case rel=>exact ⟨i+1,j,some ⟨g6,0,none⟩,c6,D++[x],Hlt.out.1,hj,by simp,by simp,by simp,HN.out,HO7.out⟩
     case measure=>simp [intOf];have:=Hlt.out;omega
    | false =>
     have Hxy:=hide hxy;clear hxy;refine wU 21 ?_;refine wU 22 ?_;refine wU 23 ?_;refine wpAnyH_done (by kernel_rfl) ?_ _;clear hHeld;go_upto_region 12 with fail;refine wp_region_held_drew (S:=fun W=>(ldD (.pointer (some (ad.add (i * 4))))).run Tryz.prog W = .ok (RV (dotOf x)) W/\(ldD (.pointer (some (bd.add (j * 4))))).run Tryz.prog W = .ok (RV (dotOf y)) W) (by kernel_rfl) (HSt.out _ (HB4.out.trans ((below_drew1 w4).mono HB4.out.size))) (fun hHeld=>?_);refine wU 0 ?_;refine wU 1 ?_;refine wU 2 ?_;refine wU 3 ?_;refine wU 4 ?_;refine wU 5 ?_;refine wU 6 ?_;refine wU 7 ?_;refine wU 8 ?_;refine wU 9 ?_;refine wU 10 ?_;refine wU 11 ?_;refine wU 12 ?_;refine wU 13 ?_;refine wU 14 ?_;refine wpAnyH_ready (rs:=[15]) (by kernel_rfl) (by simp) (.cons rfl (fun K hK=>?_) .nil);go_simp;go_wp2_with fail;refine (Go.Proofs.YtaphmhbmhcahaaaGreat.K.refBefore_any y x _).mono ?_
     rintro e w5 ⟨rfl,b5⟩;have HB5:Hid (Below wr.heap.size wr w5):=HB4.out.trans (((below_drew1 w4).trans b5).mono HB4.out.size);refine hK.out _ _ (HSt.out _ HB5.out) (fun hHeld=>?_);clear hK K b5
     cases hyx:K.ahead y x with
     | true =>
      have HN:Hid (EnM A B i (j+1) (D++[y])):=by
       have h:=HO.out.1.right (by rw [HLb.out];exact Hlt.out.2) (HO.out.1.symm.head (by rw [HLa.out];exact Hlt.out.1) (by rw [Hx.out,Hy.out];exact hyx));rw [Hy.out] at h;exact h
      clear hyx;refine wU 16 ?_;refine wU 17 ?_;refine wpAnyH_done (by kernel_rfl) ?_ _;clear hHeld;have hld:=K.run_ld28 (HEy.out _ HB5.out);have HBw:=HB5;go_wp2_with (at_builtin;refine (HO.out.2.later HBw.out).append y _ rfl halb rfl (.tmp 90) (.tmp 95) rfl D.length rfl rfl rfl ?_;intro g6 c6 w7 O7 hk7;have HO7:=hide O7;clear O7 hk7);clear hld;go_roundw
      case rel=>exact ⟨i,j+1,some ⟨g6,0,none⟩,c6,D++[y],hi,Hlt.out.2,by simp,by simp,by simp,HN.out,HO7.out⟩
      case measure=>simp [intOf];have:=Hlt.out;omega
     | false =>
      have HSd:Hid (K.sameDot x y=true):=dot_same Hxy.out hyx;clear hyx Hxy;refine wU 16 ?_;refine wU 17 ?_;refine wpAnyH_done (by kernel_rfl) ?_ _;clear hHeld;have HSq:Hid (∀ W,Below wr.heap.size wr W -> (K.ld28 (.pointer (some (ad.add (i * 4))))).run Tryz.prog W = .ok (K.EV x) W/\(K.ld28 (.pointer (some (bd.add (j * 4))))).run Tryz.prog W = .ok (K.EV y) W):=fun W hW=>⟨K.run_ld28 (HEx.out W hW),K.run_ld28 (HEy.out W hW)⟩;have HB6:Hid (Below wr.heap.size wr w5.drew):=HB5.out.trans ((below_drew1 w5).mono HB5.out.size);by_cases hxy:x=y
      ·have leq:∀ W:World,(Op.equalIn 10000 66 (K.EV x) (K.EV y)).run Tryz.prog W = .ok true W:=fun W=>(K.run_eq28 x y W).trans (congrArg (fun b=>Result.ok b W) ((K.eqE_iffK x y).2 hxy))
       have HN:Hid (EnM A B (i+1) (j+1) (D++[x])):=by
        have h:=HO.out.1.both (by rw [HLa.out];exact Hlt.out.1) (by rw [HLb.out];exact Hlt.out.2) (by rw [Hx.out,Hy.out];exact hxy);rw [Hx.out] at h;exact h
       clear hxy;go_upto_region 4 with fail;refine wp_region_held_drew (S:=fun W=>(K.ld28 (.pointer (some (ad.add (i * 4))))).run Tryz.prog W = .ok (K.EV x) W/\(K.ld28 (.pointer (some (bd.add (j * 4))))).run Tryz.prog W = .ok (K.EV y) W) (by kernel_rfl) (HSq.out _ HB6.out) (fun hHeld=>?_);refine wU 0 ?_;refine wU 1 ?_;refine wU 2 ?_;refine wU 3 ?_;refine wU 4 ?_;refine wU 5 ?_;refine wU 6 ?_;refine wU 7 ?_;refine wU 8 ?_;refine wpAnyH_done (by kernel_rfl) ?_ _;clear hHeld leq;have hld:=K.run_ld28 (HEx.out _ HB6.out);have HBw:=HB6;go_wp2_with (at_builtin;refine (HO.out.2.later HBw.out).append x _ rfl halb rfl (.tmp 28) (.tmp 33) rfl D.length rfl rfl rfl ?_;intro g6 c6 w7 O7 hk7;have HO7:=hide O7;clear O7 hk7);clear hld;go_roundw
       case rel=>exact ⟨i+1,j+1,some ⟨g6,0,none⟩,c6,D++[x],Hlt.out.1,Hlt.out.2,by simp,by simp,by simp,HN.out,HO7.out⟩
       case measure=>simp [intOf];have:=Hlt.out;omega
      ·have leq:∀ W:World,(Op.equalIn 10000 66 (K.EV x) (K.EV y)).run Tryz.prog W = .ok false W:=fun W=>(K.run_eq28 x y W).trans (congrArg (fun b=>Result.ok b W) (Bool.eq_false_iff.2 fun h=>hxy ((K.eqE_iffK x y).1 h)));have HE:Hid (EnG w w5.drew (.returned (.tuple #[.slice none 0 0,.bool false])) A B):=⟨none,0,0,[],false,rfl,K.ESrc.none _,HO.out.2.below.trans (HB6.out.mono HO.out.2.below.size),enu_clash (i:=i) (j:=j) (by rw [HLa.out];exact Hlt.out.1) (by rw [HLb.out];exact Hlt.out.2) (by rw [Hx.out,Hy.out];exact HSd.out) (by rw [Hx.out,Hy.out];exact hxy)⟩;clear hxy;go_upto_region 4 with fail;refine wp_region_held_drew (S:=fun W=>(K.ld28 (.pointer (some (ad.add (i * 4))))).run Tryz.prog W = .ok (K.EV x) W/\(K.ld28 (.pointer (some (bd.add (j * 4))))).run Tryz.prog W = .ok (K.EV y) W) (by kernel_rfl) (HSq.out _ HB6.out) (fun hHeld=>?_);refine wU 0 ?_
       refine wU 1 ?_;refine wU 2 ?_;refine wU 3 ?_;refine wU 4 ?_;refine wU 5 ?_;refine wU 6 ?_;refine wU 7 ?_;refine wU 8 ?_;refine wpAnyH_done (by kernel_rfl) ?_ _;clear hHeld leq;go_wp2_with fail;go_ret2;exact HE.out
   ·obtain ⟨ad,hao,-⟩:=HA.out.at i h1;subst hao;obtain ⟨x,Hx⟩:∃ x,Hid (A.getD i K.en0=x):=⟨_,rfl⟩
    have HEx:Hid (∀ W,Below wr.heap.size wr W -> K.EnAt W (ad.add (i * 4)) x):=fun W hW=>by
     obtain ⟨ad',e',h⟩:=((HA.out.below HO.out.2.below).below hW).at i h1;obtain rfl:=Option.some.inj e';rw [Hx.out] at h;exact h
    have i1:(i:Int) < (n:Int):=by omega
    have e2:((j:Int) == (m:Int))=true:=by simp;omega
    have Hlt:Hid (i < n):=h1
    have HN:Hid (EnM A B (i+1) j (D++[x])):=by
     have h:=HO.out.1.left (by rw [HLa.out];exact h1) (EnM.none (show j=B.length by rw [HLb.out];omega));rw [Hx.out] at h;exact h
    clear h1 h2;go_upto_region 9 with fail;refine wp_region_held_drew (S:=fun _=>True) (by kernel_rfl) (trivial) (fun hHeld=>?_);refine wU 0 ?_;refine wU 1 ?_;refine wU 2 ?_;refine wU 3 ?_;refine wU 4 ?_;refine wV 5 ?_;refine wV 6 ?_;refine wV 7 ?_;refine wV 8 ?_;refine wV 9 ?_;refine wV 10 ?_;refine wV 11 ?_;refine wV 12 ?_;refine wV 13 ?_;refine wV 14 ?_;refine wV 15 ?_;refine wV 16 ?_;refine wV 17 ?_;refine wV 18 ?_;refine wV 19 ?_;refine wV 20 ?_;refine wV 21 ?_;refine wU 22 ?_;refine wU 23 ?_;refine wpAnyH_done (by kernel_rfl) ?_ _;clear hHeld;have HBw:Hid (Below wr.heap.size wr wr.drew):=below_drew1 wr;have hld:=K.run_ld28 (HEx.out _ HBw.out);go_wp2_with (at_builtin;refine (HO.out.2.later HBw.out).append x _ rfl halb rfl (.tmp 63) (.tmp 68) rfl D.length rfl rfl rfl ?_;intro g6 c6 w7 O7 hk7;have HO7:=hide O7;clear O7 hk7);clear hld;go_roundw
    case rel=>exact ⟨i+1,j,some ⟨g6,0,none⟩,c6,D++[x],Hlt.out,hj,by simp,by simp,by simp,HN.out,HO7.out⟩
    case measure=>simp [intOf];have:=Hlt.out;omega
  ·by_cases h2:j < m
   ·obtain ⟨bd,hbo,-⟩:=HB.out.at j h2;subst hbo;obtain ⟨y,Hy⟩:∃ y,Hid (B.getD j K.en0=y):=⟨_,rfl⟩
    have HEy:Hid (∀ W,Below wr.heap.size wr W -> K.EnAt W (bd.add (j * 4)) y):=fun W hW=>by
     obtain ⟨bd',e',h⟩:=((HB.out.below HO.out.2.below).below hW).at j h2;obtain rfl:=Option.some.inj e';rw [Hy.out] at h;exact h
    have i1:¬ (i:Int) < (n:Int):=by omega
    have i2:(j:Int) < (m:Int):=by omega
    have e1:((i:Int) == (n:Int))=true:=by simp;omega
    have e2:((j:Int) == (m:Int))=false:=by simp;omega
    have Hlt:Hid (j < m):=h2
    have HN:Hid (EnM A B i (j+1) (D++[y])):=by
     have h:=HO.out.1.right (by rw [HLb.out];exact h2) (EnM.none (show i=A.length by rw [HLa.out];omega));rw [Hy.out] at h;exact h
    clear h1 h2;go_upto_region 9 with fail;refine wp_region_held_drew (S:=fun _=>True) (by kernel_rfl) (trivial) (fun hHeld=>?_);refine wU 0 ?_;refine wU 1 ?_;refine wU 2 ?_;refine wU 3 ?_;refine wU 4 ?_;refine wU 5 ?_;refine wU 6 ?_;refine wU 7 ?_;refine wU 8 ?_;refine wU 9 ?_;refine wV 10 ?_;refine wV 11 ?_;refine wV 12 ?_;refine wV 13 ?_;refine wV 14 ?_;refine wV 15 ?_;refine wV 16 ?_;refine wV 17 ?_;refine wV 18 ?_;refine wV 19 ?_;refine wV 20 ?_;refine wU 21 ?_;refine wU 22 ?_;refine wU 23 ?_;refine wpAnyH_done (by kernel_rfl) ?_ _;clear hHeld;go_upto_region 12 with fail;refine wp_region_held_drew (S:=fun _=>True) (by kernel_rfl) (trivial) (fun hHeld=>?_);refine wU 0 ?_;refine wU 1 ?_;refine wU 2 ?_;refine wU 3 ?_;refine wU 4 ?_;refine wV 5 ?_;refine wV 6 ?_;refine wV 7 ?_;refine wV 8 ?_;refine wV 9 ?_;refine wV 10 ?_;refine wV 11 ?_
    refine wV 12 ?_;refine wV 13 ?_;refine wV 14 ?_;refine wV 15 ?_;refine wU 16 ?_;refine wU 17 ?_;refine wpAnyH_done (by kernel_rfl) ?_ _;clear hHeld;have HBw:Hid (Below wr.heap.size wr wr.drew.drew):=(below_drew1 wr).trans ((below_drew1 wr.drew).mono (below_drew1 wr).size);have hld:=K.run_ld28 (HEy.out _ HBw.out);go_wp2_with (at_builtin;refine (HO.out.2.later HBw.out).append y _ rfl halb rfl (.tmp 90) (.tmp 95) rfl D.length rfl rfl rfl ?_;intro g6 c6 w7 O7 hk7;have HO7:=hide O7;clear O7 hk7);clear hld;go_roundw
    case rel=>exact ⟨i,j+1,some ⟨g6,0,none⟩,c6,D++[y],hi,Hlt.out,by simp,by simp,by simp,HN.out,HO7.out⟩
    case measure=>simp [intOf];have:=Hlt.out;omega
   ·have i1:¬ (i:Int) < (n:Int):=by omega
    have i2:¬ (j:Int) < (m:Int):=by omega
    have HE:Hid (EnG w wr (.returned (.tuple #[.slice ap D.length c2,.bool true])) A B):=by
     have hU:=HO.out.1.done (show i=A.length by rw [HLa.out];omega) (show j=B.length by rw [HLb.out];omega)
     obtain ⟨S9,-⟩:=HO.out.2.src (fun e he=>Hsk.out e (by
      rcases hU with ⟨h,-⟩ | ⟨-,-,-,h⟩
      ·cases h
      ·exact (h e).1 he)) (by omega)
     exact ⟨ap,D.length,c2,D,true,rfl,S9,HO.out.2.below,hU⟩
    clear HO;go_wp2_with fail;go_ret2;exact HE.out
end Go.Proofs.YtaphmhbmhcahaaaGreat
