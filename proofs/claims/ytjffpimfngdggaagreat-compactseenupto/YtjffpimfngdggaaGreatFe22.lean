/- BSm TUa BMp BMr BPr BPg TShg TUc BS1 BLi -/
import Derived.Test.YtjffpimfngdggaaGreatTk
import Derived.Test.YtjffpimfngdggaaGreatFe21
import Derived.Test.YtjffpimfngdggaaGreatFe17
import Derived.Test.YtjffpimfngdggaaGreatFe10
import Derived.Deep.CutRange
import Derived.Test.YtjffpimfngdggaaGreatFe19
import Derived.Sort.KeysCollected
import Derived.Maps.Ext
import Derived.Maps.OwnOps
import Derived.StringKeys
import Derived.Below
import Derived.Maps.AppendAt
import Derived.Laws.OwnMore
import Derived.Test.YtjffpimfngdggaaGreatFe06
import Derived.Shelf.Spec.SlicesGrow
import Derived.Test.YtjffpimfngdggaaGreatProg
import Derived.Test.YtjffpimfngdggaaGreatFe15
import Derived.Laws.AppendOwnNone
import Derived.Deep.LoopGhost
import Derived.Test.YtjffpimfngdggaaGreatFe00
set_option maxRecDepth 100000
set_option maxHeartbeats 4000000
namespace Go.Proofs.YtjffpimfngdggaaGreat
section
open Go.RowKit
attribute [local go_sem ↓] K.zx K.zw K.qz zq zp zZ zY
attribute [local go_sem] K.zI K.zt zi zj
theorem zab {s u:ByteArray} (h:s.toList=u.toList):s=u:=by
 rw [ByteArray.toList_eq,ByteArray.toList_eq] at h;exact ByteArray.ext (Array.ext' h)
theorem kq (x y:K.En):K.eqE x y=true↔x=y:=by
 obtain ⟨a,b,s,q⟩:=x;obtain ⟨a',b',s',q'⟩:=y;simp only [K.eqE,Bool.and_eq_true,beq_iff_eq,K.En.mk.injEq];constructor
 ·rintro ⟨⟨⟨h1,h2⟩,h3⟩,h4⟩;exact ⟨h1,h2,zab h3,h4⟩
 ·rintro ⟨h1,h2,h3,h4⟩;exact ⟨⟨⟨h1,h2⟩,by rw [h3]⟩,h4⟩
theorem ku {n:Nat} {w W:World} (h:Below n w W):Below n w W.drew:=⟨h.os,h.tape,h.output,h.size,h.block⟩
theorem jJ (ao bo:Option Addr) (n m ca cb:Nat) (L M:List K.En) (w:World) (hL:K.aD w ao n ca L) (hM:K.aD w bo m cb M):Calls Tryz.prog 28 #[.slice ao n ca,.slice bo m cb] w fun e w'=>df w w' e (L=M):=by
 have HL:=hide hL;have HM:=hide hM;have hn:=hL.2.2.2.2;have hm:=hM.2.2.2.2;have pu:Hid (L.length=n/\M.length=m):=⟨hL.1,hM.1⟩;clear hL hM;by_cases mw:n=m
 ·subst mw;go_enter Tryz.func28,Tryz.ntmps28;go_wp2_with fail;go_loopw [5] (fun i wr=>∃ k:Nat,k <= n/\i = .int .i64 k/\Hid (L.take k=M.take k/\Below w.heap.size w wr)) (fun i _=>n - (intOf i).toNat)
  case atStart=>exact ⟨0,Nat.zero_le _,rfl,rfl,Below.refl _ _⟩
  case round =>
   obtain ⟨k,hk,rfl,HK⟩:=hrel
   rename World=>wr
   by_cases ak:k < n
   ·obtain ⟨ad,rfl,A0⟩:=(HL.out.below HK.out.2).at k ak;obtain ⟨bd,rfl,B0⟩:=(HM.out.below HK.out.2).at k ak;obtain ⟨x,Hx⟩:∃ x,Hid (L.getD k K.en0=x):=⟨_,rfl⟩;obtain ⟨y,Hy⟩:∃ y,Hid (M.getD k K.en0=y):=⟨_,rfl⟩;rw [Hx.out] at A0;rw [Hy.out] at B0;have HA:=hide A0;have HB:=hide B0;clear A0 B0;have CA:Hid (L.take (k+1)=L.take k++[x]/\M.take (k+1)=M.take k++[y]):=⟨by rw [K.jm L k (by have:=pu.out;omega),Hx.out],by rw [K.jm M k (by have:=pu.out;omega),Hy.out]⟩;have cw:=hide ak;go_upto_region 6 with fail;refine wp_region_held_drew (S:=fun v=>(K.ek (.pointer (some (ad.add (k * 4))))).run Tryz.prog v = .ok (K.EV x) v/\(K.ek (.pointer (some (bd.add (k * 4))))).run Tryz.prog v = .ok (K.EV y) v) (by kernel_rfl) (⟨K.zO (HA.out.on (zg wr)),K.zO (HB.out.on (zg wr))⟩) (fun hHeld=>?_)
    refine wU 0 ?_;refine wU 1 ?_;refine wU 2 ?_;refine wU 3 ?_;refine wU 4 ?_;refine wU 5 ?_;refine wU 6 ?_;refine wU 7 ?_
    cases lM:K.eqE x y with
    | false =>
     refine wU 8 ?_;refine wpAnyH_done (by kernel_rfl) ?_ _;clear hHeld
     have HF:Hid (df w wr.drew (.returned (.bool false)) (L=M)):=by
      refine ⟨false,rfl,⟨(fun h=>by cases h),fun h=>?_⟩,ku HK.out.2⟩
      have:x=y:=by rw [<- Hx.out,<- Hy.out,h]
      rw [(kq x y).2 this] at lM
      cases lM
     clear lM;go_wp2_with fail;go_ret;exact HF.out
    | true =>
     refine wU 8 ?_;refine wpAnyH_done (by kernel_rfl) ?_ _;clear hHeld
     have HE:Hid (L.take (k+1)=M.take (k+1)):=by show _=_;rw [CA.out.1,CA.out.2,HK.out.1,(kq x y).1 lM]
     clear lM;go_wp2_with fail;go_roundw
     case rel=>exact ⟨k+1,by omega,by simp,HE.out,ku HK.out.2⟩
     case measure=>simp [intOf];omega
   ·obtain rfl:k=n:=by omega
    have HF:Hid (df w wr (.returned (.bool true)) (L=M)):=by
     refine ⟨true,rfl,⟨fun _=>?_,fun _=>rfl⟩,HK.out.2⟩;have h:=HK.out.1;rw [List.take_of_length_le (by have:=pu.out;omega),List.take_of_length_le (by have:=pu.out;omega)] at h;exact h
    go_wp2_with fail;go_ret;exact HF.out
 ·have ch:((n:Int) != (m:Int))=true:=by simp;omega
  have HF:Hid (df w w (.returned (.bool false)) (L=M)):=⟨false,rfl,⟨(fun h=>by cases h),fun h=>by rw [h] at pu;have:=pu.out;omega⟩,Below.refl _ _⟩;go_enter Tryz.func28,Tryz.ntmps28;go_wp2_with fail;go_ret;exact HF.out
abbrev Rp:=ByteArray × Pst
def plR (L:List Rc):List Rp:=L.map fun r=>(r.s,r.p.P)
theorem jy (L:List Rc):(plR L).length=L.length:=by simp [plR]
theorem zf7 (L:List Rc) (r:Rc):plR (L++[r])=plR L++[(r.s,r.p.P)]:=by simp [plR]
theorem kJ (L:List Rc) (k:Nat) (h:k < L.length):plR (L.take (k+1))=plR (L.take k)++[((L.getD k rc0).s,(L.getD k rc0).p.P)]:=by
 rw [vv L k h,zf7]
theorem iC.flat {w:World} {b o:Nat} {r:Rc} (A:iC w ⟨b,o,none⟩ (mkR r)):w.cell? ⟨b,o,none⟩=some (.string r.s)/\PAt w ⟨b,o+1,none⟩ r.p:=by
 obtain ⟨h0,h1,h2⟩:=A;rw [Addr.add_lit] at h1 h2;refine ⟨h0,h1,?_⟩;rw [Addr.add_lit];exact h2
theorem RcS.spot {w:World} {ad:Addr} {n c:Nat} {L:List Rc} (h:RcS w (some ad) n c L) (hn:0 < n):∃ b o,ad=⟨b,o,none⟩:=by
 obtain ⟨ad0,e0,A00⟩:=h.at 0 hn;obtain rfl:=Option.some.inj e0;have su:=World.cell?_spot A00.c0;rw [Nat.zero_mul,add_zero] at su;obtain ⟨b,o,sp⟩:=ad;have su:sp=none:=su;subst su;exact ⟨b,o,rfl⟩
theorem wL (ao bo:Option Addr) (n m ca cb:Nat) (L M:List Rc) (w:World) (hL:RcS w ao n ca L) (hM:RcS w bo m cb M):Calls Tryz.prog 36 #[.slice ao n ca,.slice bo m cb] w fun e w'=>df w w' e (plR L=plR M):=by
 have HL:=hide hL;have HM:=hide hM;have hn:=hL.big;have hm:=hM.big;have pu:Hid (L.length=n/\M.length=m):=⟨hL.len,hM.len⟩;clear hL hM;by_cases mw:n=m
 ·subst mw;go_enter Tryz.func36,Tryz.ntmps36;go_wp2_with fail;go_loopw [5] (fun i wr=>∃ k:Nat,k <= n/\i = .int .i64 k/\Hid (plR (L.take k)=plR (M.take k)/\Below w.heap.size w wr)) (fun i _=>n - (intOf i).toNat)
  case atStart=>exact ⟨0,Nat.zero_le _,rfl,rfl,Below.refl _ _⟩
  case round =>
   obtain ⟨k,hk,rfl,HK⟩:=hrel
   rename World=>wr
   by_cases ak:k < n
   ·obtain ⟨ad,rfl,A0⟩:=(HL.out.below HK.out.2).at k ak;obtain ⟨bd,rfl,B0⟩:=(HM.out.below HK.out.2).at k ak;obtain ⟨b1,o1,rfl⟩:=HL.out.spot (by omega);obtain ⟨b2,o2,rfl⟩:=HM.out.spot (by omega);have Af:=(HL.out.below HK.out.2).okAt k ak;have m6:=(HM.out.below HK.out.2).okAt k ak;have FE:=kJ L k (by have:=pu.out;omega);have FL:=kJ M k (by have:=pu.out;omega);obtain ⟨x,Hx⟩:∃ x,Hid (L.getD k rc0=x):=⟨_,rfl⟩;obtain ⟨y,Hy⟩:∃ y,Hid (M.getD k rc0=y):=⟨_,rfl⟩;rw [Hx.out] at A0 Af FE;rw [Hy.out] at B0 m6 FL;rw [Addr.add_lit] at A0 B0;have HA:=hide A0;have HB:=hide B0;have CA:Hid (plR (L.take (k+1))=plR (L.take k)++[(x.s,x.p.P)]/\plR (M.take (k+1))=plR (M.take k)++[(y.s,y.p.P)]):=⟨FE,FL⟩;have HO:Hid (am wr x.p/\am wr y.p):=⟨Af.1,m6.1⟩;clear A0 B0 Af m6 FE FL
    have mx:Hid ((x.s,x.p.P)≠(y.s,y.p.P) -> ¬ plR L=plR M):=fun ch h=>by
     have h1:=congrArg (fun z:List Rp=>z.take (k+1)) h;simp only [plR,<- List.map_take] at h1;have h2:=CA.out;unfold plR at h2;rw [h2.1,h2.2] at h1;have h3:=HK.out.1;unfold plR at h3;rw [h3] at h1;have:=List.append_cancel_left h1;exact ch (List.cons.inj this).1
    have cw:=hide ak;go_upto_region 6 with fail;refine wp_region_held_drew (S:=fun v=>(v.cell? ⟨b1,o1+k * 3,none⟩=some (.string x.s)/\v.cell? ⟨b2,o2+k * 3,none⟩=some (.string y.s))/\(ldP (.pointer (some ⟨b1,o1+k * 3+1,none⟩))).run Tryz.prog v = .ok (PV x.p) v/\(ldP (.pointer (some ⟨b2,o2+k * 3+1,none⟩))).run Tryz.prog v = .ok (PV y.p) v) (by kernel_rfl) (⟨⟨(HA.out.on (zg wr)).flat.1,(HB.out.on (zg wr)).flat.1⟩,zl (HA.out.on (zg wr)).flat.2,zl (HB.out.on (zg wr)).flat.2⟩) (fun hHeld=>?_);refine wU 0 ?_;refine wU 1 ?_;refine wU 2 ?_;refine wU 3 ?_;refine wU 4 ?_;refine wU 5 ?_;refine wU 6 ?_;refine wU 7 ?_;refine wU 8 ?_;refine wU 9 ?_;by_cases hs:x.s=y.s
    ·have ti:(x.s.toList == y.s.toList)=true:=by rw [hs];simp
     have HS:=hide hs;clear hs;refine wU 10 ?_;refine wU 11 ?_;refine wU 12 ?_;refine wU 13 ?_;refine wU 14 ?_;refine wU 15 ?_;refine wU 16 ?_;refine wU 17 ?_;refine wU 18 ?_;refine wU 19 ?_;refine wU 20 ?_;refine wU 21 ?_;refine wpAnyH_ready (rs:=[22]) (by kernel_rfl) (by simp) (.cons rfl (fun K hK=>?_) .nil);go_simp;go_wp2_with fail;refine (xy x.p y.p _ (HO.out.1.below (zg wr)) (HO.out.2.below (zg wr))).mono ?_;rintro e w7 ⟨z,rfl,hz,b7⟩;have pH:Below wr.heap.size wr w7:=(zg wr).trans b7;have dH:=hide (HK.out.2.trans (pH.mono HK.out.2.size));refine hK.out _ _ (⟨⟨(HA.out.on (pH)).flat.1,(HB.out.on (pH)).flat.1⟩,zl (HA.out.on (pH)).flat.2,zl (HB.out.on (pH)).flat.2⟩) (fun hHeld=>?_);clear hK K b7 pH
     cases z with
     | false =>
      have HN:=hide (mx.out (fun h=>by have:=hz.2 (Prod.mk.inj h).2;cases this));clear hz;refine wU 23 ?_;refine wU 24 ?_;refine wpAnyH_done (by kernel_rfl) ?_ _;clear hHeld;go_wp2_with fail;go_ret;exact ⟨false,rfl,⟨(fun h=>by cases h),fun h=>absurd h HN.out⟩,dH.out⟩
     | true =>
      have HE:Hid (plR (L.take (k+1))=plR (M.take (k+1))):=by show _=_;rw [CA.out.1,CA.out.2,HK.out.1,HS.out,hz.1 rfl]
      clear hz;refine wU 23 ?_;refine wU 24 ?_;refine wpAnyH_done (by kernel_rfl) ?_ _;clear hHeld;go_wp2_with fail;go_roundw
      case rel=>exact ⟨k+1,by omega,by simp,HE.out,dH.out⟩
      case measure=>simp [intOf];omega
    ·have ti:(x.s.toList == y.s.toList)=false:=by rw [beq_eq_false_iff_ne];exact fun h=>hs (zab h)
     have HN:=hide (mx.out (fun h=>hs (Prod.mk.inj h).1));refine wU 10 ?_;refine wU 11 ?_;refine wV 12 ?_;refine wV 13 ?_;refine wV 14 ?_;refine wV 15 ?_;refine wV 16 ?_;refine wV 17 ?_;refine wV 18 ?_;refine wV 19 ?_;refine wV 20 ?_;refine wV 21 ?_;refine wV 22 ?_;refine wV 23 ?_;refine wU 24 ?_;refine wpAnyH_done (by kernel_rfl) ?_ _;clear hHeld;clear hs;go_wp2_with fail;go_ret;exact ⟨false,rfl,⟨(fun h=>by cases h),fun h=>absurd h HN.out⟩,ku HK.out.2⟩
   ·obtain rfl:k=n:=by omega
    have HF:Hid (df w wr (.returned (.bool true)) (plR L=plR M)):=by
     refine ⟨true,rfl,⟨fun _=>?_,fun _=>rfl⟩,HK.out.2⟩;have h:=HK.out.1;rw [List.take_of_length_le (by have:=pu.out;omega),List.take_of_length_le (by have:=pu.out;omega)] at h;exact h
    go_wp2_with fail;go_ret;exact HF.out
 ·have ch:((n:Int) != (m:Int))=true:=by simp;omega
  have HF:Hid (df w w (.returned (.bool false)) (plR L=plR M)):=⟨false,rfl,⟨(fun h=>by cases h),fun h=>by have h1:=congrArg List.length h;rw [jy,jy] at h1;have:=pu.out;omega⟩,Below.refl _ _⟩;go_enter Tryz.func36,Tryz.ntmps36;go_wp2_with fail;go_ret;exact HF.out
end
section
open Go.RowKit
/-! ### any total order -/
section
variable {α : Type} {c : α -> α -> Int}
def Srt (c : α -> α -> Int) (L:List α):Prop:=L.Pairwise fun x y=>c x y < 0
theorem Tot.irr (h:Tot c) (x : α):¬ c x x < 0:=by have:=(h.eq x x).2 rfl;omega
theorem Tot.asym (h:Tot c) {x y : α} (h1:c x y < 0):¬ c y x < 0:=by have:=h.neg x y;omega
theorem Srt.uniq (h:Tot c):∀ {X Y:List α},Srt c X -> Srt c Y -> (∀ x,x∈X↔x∈Y) -> X=Y
 | [],[],_,_,_=>rfl
 | [],b :: _,_,_,e=>absurd ((e b).2 List.mem_cons_self) List.not_mem_nil
 | a :: _,[],_,_,e=>absurd ((e a).1 List.mem_cons_self) List.not_mem_nil
 | a :: X,b :: Y,h1,h2,e=>by
  obtain ⟨a1,a2⟩:=List.pairwise_cons.1 h1;obtain ⟨b1,b2⟩:=List.pairwise_cons.1 h2
  have dS:a=b:=by
   rcases List.mem_cons.1 ((e a).1 List.mem_cons_self) with q | q
   ·exact q
   ·rcases List.mem_cons.1 ((e b).2 List.mem_cons_self) with q' | q'
    ·exact q'.symm
    ·exact absurd (a1 b q') (h.asym (b1 a q))
  subst dS;rw [Srt.uniq h a2 b2 fun x=>?_];have hx:=e x;rw [List.mem_cons,List.mem_cons] at hx;constructor
  ·intro hm;rcases hx.1 (.inr hm) with rfl | q
   ·exact absurd (a1 _ hm) (h.irr _)
   ·exact q
  ·intro hm;rcases hx.2 (.inr hm) with rfl | q
   ·exact absurd (b1 _ hm) (h.irr _)
   ·exact q
structure Mg (c : α -> α -> Int) (X Y:List α) (D A B:List α):Prop where
 sd:Srt c D
 sa:Srt c A
 sb:Srt c B
 da:∀ d∈D,∀ x∈A,c d x < 0
 db:∀ d∈D,∀ x∈B,c d x < 0
 all:∀ x,(x∈D∨x∈A∨x∈B)↔(x∈X∨x∈Y)
theorem Mg.start {X Y:List α} (h1:Srt c X) (h2:Srt c Y):Mg c X Y [] X Y:=
 ⟨List.Pairwise.nil,h1,h2,fun d h=>(by cases h),fun d h=>(by cases h),fun x=>by simp⟩
theorem Mg.symm {X Y D A B:List α} (h:Mg c X Y D A B):Mg c X Y D B A:=
 ⟨h.sd,h.sb,h.sa,h.db,h.da,fun x=>by rw [<- h.all x];constructor <;> (rintro (q | q | q) <;> simp [q])⟩
theorem Mg.left {X Y D A B:List α} {x : α} (h:Mg c X Y D (x :: A) B) (hx:∀ y∈B,c x y < 0):Mg c X Y (D++[x]) A B:=by
 obtain ⟨a1,a2⟩:=List.pairwise_cons.1 h.sa;refine ⟨List.pairwise_append.2 ⟨h.sd,List.pairwise_singleton _ _,fun d hd y hy=>?_⟩,a2,h.sb,fun d hd y hy=>?_,fun d hd y hy=>?_,fun y=>?_⟩
 ·obtain rfl:=List.mem_singleton.1 hy;exact h.da d hd _ List.mem_cons_self
 ·rcases List.mem_append.1 hd with q | q
  ·exact h.da d q y (List.mem_cons_of_mem _ hy)
  ·obtain rfl:=List.mem_singleton.1 q;exact a1 y hy
 ·rcases List.mem_append.1 hd with q | q
  ·exact h.db d q y hy
  ·obtain rfl:=List.mem_singleton.1 q;exact hx y hy
 ·rw [<- h.all y];simp only [List.mem_append,List.mem_cons];constructor
  ·rintro ((q | q) | q | q)
   ·exact .inl q
   ·exact .inr (.inl (.inl (by simpa using q)))
   ·exact .inr (.inl (.inr q))
   ·exact .inr (.inr q)
  ·rintro (q | (q | q) | q)
   ·exact .inl (.inl q)
   ·exact .inl (.inr (by simp [q]))
   ·exact .inr (.inl q)
   ·exact .inr (.inr q)
theorem Mg.drop {X Y D A B:List α} {x : α} (h:Mg c X Y D (x :: A) B) (hx:x∈B):Mg c X Y D A B:=
 ⟨h.sd,(List.pairwise_cons.1 h.sa).2,h.sb,fun d hd y hy=>h.da d hd y (List.mem_cons_of_mem _ hy),h.db,fun y=>by
  rw [<- h.all y];constructor
  ·rintro (q | q | q)
   ·exact .inl q
   ·exact .inr (.inl (List.mem_cons_of_mem _ q))
   ·exact .inr (.inr q)
  ·rintro (q | q | q)
   ·exact .inl q
   ·rcases List.mem_cons.1 q with rfl | q
    ·exact .inr (.inr hx)
    ·exact .inr (.inl q)
   ·exact .inr (.inr q)⟩
theorem zct (h:Tot c) {x y : α} {B:List α} (hB:Srt c (y :: B)) (lM:c x y < 0):∀ z∈y :: B,c x z < 0:=fun z hz=>by
 rcases List.mem_cons.1 hz with rfl | q
 ·exact lM
 ·exact h.lt lM (by have:=(List.pairwise_cons.1 hB).1 z q;omega)
def UnK (c : α -> α -> Int) (X Y Z:List α):Prop:=Srt c Z/\∀ x,x∈Z↔(x∈X∨x∈Y)
theorem Mg.doneL {X Y D A:List α} (h:Mg c X Y D A []):UnK c X Y (D++A):=
 ⟨List.pairwise_append.2 ⟨h.sd,h.sa,h.da⟩,fun x=>by rw [<- h.all x];simp⟩
theorem Mg.doneR {X Y D B:List α} (h:Mg c X Y D [] B):UnK c X Y (D++B):=h.symm.doneL
end
/-! ### records -/
def rU (x y:UInt8):Int:=if x < y then -1 else if y < x then 1 else 0
theorem zgO:Tot rU:=by
 refine ⟨fun x y=>?_,fun x y=>?_,fun x y=>?_,fun x y z=>?_⟩ <;> simp only [rU,UInt8.lt_iff_toNat_lt]
 ·split
  ·simp
  ·split <;> simp
 ·split <;> split <;> (first | omega | rfl)
 ·constructor
  ·intro h
   split at h
   ·omega
   ·split at h
    ·omega
    ·exact UInt8.toNat_inj.1 (by omega)
  ·rintro rfl;simp
 ·intro h1 h2
  split at h1 <;> split at h2 <;> split <;> (try split) <;> (try split at h1) <;> (try split at h2) <;> omega
theorem zhF:∀ a b:List UInt8,Lib.compareBytes a b=lex rU a b
 | [],[]=>rfl
 | [],_ :: _=>rfl
 | _ :: _,[]=>rfl
 | a :: x,b :: y=>by
  have ih:=zhF x y;simp only [Lib.compareBytes,lex,rU];by_cases h:a < b
  ·simp [h]
  ·by_cases h2:b < a
   ·simp [h,h2]
   ·simp [h,h2,ih]
theorem zgQ (a b:ByteArray):eX a b=lex rU a.data.toList b.data.toList:=zhF _ _
theorem zfn {a b:ByteArray} (h:a.data.toList=b.data.toList):a=b:=by
 obtain ⟨⟨x⟩⟩:=a;obtain ⟨⟨y⟩⟩:=b;simp at h;rw [h]
theorem zgP:Tot eX:=by
 have t:=zgO.lex;refine ⟨fun x y=>?_,fun x y=>?_,fun x y=>?_,fun x y z=>?_⟩ <;> simp only [zgQ]
 ·exact t.rng _ _
 ·exact t.neg _ _
 ·exact ⟨fun h=>zfn ((t.eq _ _).1 h),fun h=>by rw [h];exact (t.eq _ _).2 rfl⟩
 ·exact t.tr _ _ _
def rck (r:Rc):Rp:=(r.s,r.p.P)
theorem vC (L:List Rc):plR L=L.map rck:=rfl
def ck (x y:Rp):Int:=if eX x.1 y.1=0 then eZ x.2 y.2 else eX x.1 y.1
theorem jG:Tot ck:=Tot.both (f:=Prod.fst) (g:=Prod.snd) zgP zgR (fun _ _ h1 h2=>Prod.ext h1 h2)
theorem zb9 {a b:Rc} {z:Int} (ha:aj a.p.P) (hb:aj b.p.P) (h:gB a b z):z=ck (rck a) (rck b):=by
 have e:iu a.p.P b.p.P (eZ a.p.P b.p.P):=⟨_,_,zW.2 ha,zW.2 hb,rfl⟩;unfold ck;rcases h with ⟨h1,h2⟩ | ⟨h1,h2⟩
 ·rw [if_neg (show ¬ eX (rck a).1 (rck b).1=0 from h1)];exact h2
 ·rw [if_pos (show eX (rck a).1 (rck b).1=0 from h1)];exact h2.unique e
theorem zip {a b:Rc} (ha:aj a.p.P) (hb:aj b.p.P):gB a b (ck (rck a) (rck b)):=by
 by_cases h:eX a.s b.s=0
 ·refine .inr ⟨h,?_⟩;unfold ck;rw [if_pos (show eX (rck a).1 (rck b).1=0 from h)];exact ⟨_,_,zW.2 ha,zW.2 hb,rfl⟩
 ·refine .inl ⟨h,?_⟩;unfold ck;rw [if_neg (show ¬ eX (rck a).1 (rck b).1=0 from h)];rfl
theorem jh {L:List Rc} {j:Nat} (h:j < L.length):L.getD j rc0∈L:=by
 rw [List.getD_eq_getElem?_getD,List.getElem?_eq_getElem h];exact List.getElem_mem h
theorem jM {L:List Rc} {j:Nat} (h:j < L.length):L.getD j rc0=L[j]:=by
 rw [List.getD_eq_getElem?_getD,List.getElem?_eq_getElem h];rfl
theorem xS {L:List Rc}:OkR L L.length↔(∀ r∈L,cj r)/\Srt ck (plR L):=by
 constructor
 ·intro h
  have hr:∀ r∈L,cj r:=fun r hr=>by
   obtain ⟨j,hj,rfl⟩:=List.getElem_of_mem hr;rw [<- jM hj];exact (h j hj).1
  refine ⟨hr,?_⟩
  have step:∀ k,∀ i,(hk:i+k+1 < L.length) -> ck (rck L[i]) (rck L[i+k+1]) < 0:=by
   intro k
   have one:∀ i,(hi:i+1 < L.length) -> ck (rck L[i]) (rck L[i+1]) < 0:=fun i hi=>by
    obtain ⟨z,hz,ak⟩:=(h (i+1) hi).2 (by omega);rw [jM hi,show i+1 - 1=i from rfl,jM (by omega)] at hz;rw [<- zb9 (hr _ (List.getElem_mem _)).2.1 (hr _ (List.getElem_mem _)).2.1 hz];exact ak
   induction k with
   | zero=>intro i hk;exact one i (by omega)
   | succ k ih =>
    intro i hk;have h1:=ih i (by omega);have h2:=one (i+k+1) (by omega);exact jG.lt h1 (Int.le_of_lt h2)
  unfold Srt;rw [vC,List.pairwise_map,List.pairwise_iff_getElem];intro i j hi hj pt;obtain ⟨k,rfl⟩:∃ k,j=i+k+1:=⟨j - i - 1,by omega⟩;exact step k i hj
 ·rintro ⟨hr,hs⟩ j hj;unfold Srt at hs;rw [vC,List.pairwise_map,List.pairwise_iff_getElem] at hs;refine ⟨hr _ (jh hj),fun h0=>?_⟩;rw [jM hj,jM (by omega)];exact ⟨_,zip (hr _ (List.getElem_mem _)).2.1 (hr _ (List.getElem_mem _)).2.1,hs (j - 1) j (by omega) hj (by omega)⟩
def iQ (L M F:List Rc):Prop:=UnK ck (plR L) (plR M) (plR F)/\∀ r∈F,cj r
theorem iQ.ok {L M F:List Rc} (h:iQ L M F):OkR F F.length:=xS.2 ⟨h.2,h.1.1⟩
theorem kH {r r':Rc} (h:cj r) (e:rck r'=rck r):cj r':=by
 have e1:r'.s=r.s:=congrArg Prod.fst e;have e2:r'.p.P=r.p.P:=congrArg Prod.snd e;exact ⟨by rw [e1];exact h.1,by rw [e2];exact h.2⟩
end
section
open Go.RowKit Go.Maps Go.Sort
structure Hs where
 o:Option Addr
 n:Nat
 c:Nat
def hs0:Hs:=⟨none,0,0⟩
abbrev HsV (s:Hs):Value:=.slice s.o s.n s.c
def RSl (v:Value):Option (DataW Hs × List MemPlace):=
 match v with
 | .slice o n c=>some (.held ⟨o,n,c⟩,[])
 | _=>none
theorem zhH (s:Hs):RSl (HsV s)=some (.held s,[]):=rfl
theorem ziG {v:Value} {s:Hs} {ps:List MemPlace} (h:RSl v=some (.held s,ps)):v=HsV s:=by
 unfold RSl at h
 split at h
 ·simp at h;obtain ⟨rfl,_⟩:=h;rfl
 ·simp at h
def MpS (D:DataW Hs) (K:ByteArray -> Prop) (f:ByteArray -> Hs):Prop:=(∀ s:ByteArray,has D (.string s.data.toList)=true↔K s)/\∀ s:ByteArray,D.atKey (.string s.data.toList) (.held hs0) = .held (f s)
theorem zeB:MpS (.map []) (fun _=>False) (fun _=>hs0):=⟨fun s=>by simp [has],fun s=>rfl⟩
theorem zcr {a b:ByteArray} (h:(Lit.string a.data.toList) = .string b.data.toList):a=b:=by
 cases a;cases b;simp at h;simp [h]
theorem zgf {D:DataW Hs} {K:ByteArray -> Prop} {f:ByteArray -> Hs} (h:MpS D K f) (hm:IsMap D) (k:ByteArray) (x:Hs) (g:ByteArray -> Hs) (hg:g k=x) (hf:∀ s,s≠k -> g s=f s) :
  MpS (D.put (.string k.data.toList) (.held x)) (fun s=>s=k∨K s) g:=by
 refine ⟨fun s=>?_,fun s=>?_⟩
 ·by_cases hs:k=s
  ·subst hs;rw [has_put_same hm (k:=.string k.data.toList) (show WideAt.IsKeyLit (.string k.data.toList) from trivial)];exact ⟨fun _=>.inl rfl,fun _=>rfl⟩
  ·rw [has_put_other (fun he=>hs (zcr he).symm),h.1 s];exact ⟨fun h=>.inr h,fun h=>h.resolve_left (fun e=>hs e.symm)⟩
 ·by_cases hs:k=s
  ·subst hs;rw [atKey_put_same hm (k:=.string k.data.toList) (show WideAt.IsKeyLit (.string k.data.toList) from trivial),hg]
  ·rw [atKey_put_other (fun he=>hs (zcr he).symm),h.2 s,hf s (fun e=>hs e.symm)]
theorem ET {P:Program} {k:TypeId} {R:Value -> Option (DataW Hs × List MemPlace)} {w:World} {b n:Nat} {D:DataW Hs} {S:ByteArray -> Prop} {f:ByteArray -> Hs} (aM:w.ownsMap P k R b n D) (K:Keyed P k) (hk:P.underlying k=some .string) (hm:MpS D S f)
  {ss:List (List UInt8)} (hp:ss.Perm (strKeys D)):ss.Nodup/\∀ x:List UInt8,x∈ss↔S ⟨x.toArray⟩:=by
 obtain ⟨es,hD,Gw,_⟩:=aM.entries K;obtain ⟨es',Ek,Hn⟩:=aM.keysOf
 obtain rfl:es=es':=by rw [hD] at Ek;simpa using Ek
 subst hD
 have sU:∀ p∈es,∃ x,p.1 = .string x:=fun p hp=>by obtain ⟨v,hv⟩:=Hn p hp;obtain ⟨x,_,hx,_⟩:=Maps.keyOf_str hk hv;exact ⟨x,hx⟩
 have BU:(strKeys (.map es)).Nodup:=by
  show (es.map fun p=>strOf p.1).Nodup
  refine List.pairwise_map.2 (Gw.imp_of_mem fun {p q} nE hq' ch e=>ch ?_);obtain ⟨a,ha⟩:=sU p nE;obtain ⟨b,hb⟩:=sU q hq';rw [ha,hb] at e ⊢;exact congrArg _ e
 have m8:∀ x,x∈strKeys (.map es)↔has (.map es) (.string x)=true:=fun x=>by
  rw [has_eq,List.any_eq_true]
  show x∈es.map (fun p=>strOf p.1)↔_
  rw [List.mem_map];constructor
  ·rintro ⟨p,nE,rfl⟩;obtain ⟨a,ha⟩:=sU p nE;exact ⟨p,nE,by rw [ha];simp [Lit.sameKey,strOf]⟩
  ·rintro ⟨p,nE,hs⟩;obtain ⟨a,ha⟩:=sU p nE;rw [ha] at hs;exact ⟨p,nE,by rw [ha];simpa [Lit.sameKey,strOf] using hs⟩
 refine ⟨hp.nodup_iff.2 BU,fun x=>?_⟩;rw [hp.mem_iff,m8 x];exact hm.1 ⟨x.toArray⟩
end
section
open Go.RowKit Go.Maps Go.Sort
variable {P : Program} {kt et : TypeId} {size B : Nat} {w W W2 : World} {b k : Nat} {K : ByteArray -> Prop} {f : ByteArray -> Hs} {X : ByteArray -> List Value}
structure MRo (P:Program) (kt et:TypeId) (size B:Nat) (w W:World) (b k:Nat) (K:ByteArray -> Prop) (f:ByteArray -> Hs) (X:ByteArray -> List Value):Prop where
 map:∃ D,W.ownsMap P kt RSl b k D/\MpS D K f
 rows:∀ s,W.ownsRow B et size (HsV (f s)) (f s).n (X s)
 apart:∀ s t,s≠t -> ∀ g,(HsV (f s)).ownBlock=some g -> (HsV (f t)).ownBlock≠some g
 below:Below w.heap.size w W
 hb:w.heap.size <= b/\b < B/\B <= W.heap.size
theorem MRo.start (w:World):MRo P kt et size (w.heap.size+1) w (w.alloc (.map #[] 0)) w.heap.size 0 (fun _=>False) (fun _=>hs0) (fun _=>[]):=
 ⟨⟨_,World.ownsMap_made _ _ _ _,zeB⟩,fun _=>World.ownsRow_nil _ _ _ _,fun _ _ _ g h=>(by cases h),(Below.refl _ _).alloc (Nat.le_refl _) _,Nat.le_refl _,Nat.lt_succ_self _,by simp⟩
theorem ji (h:Below W.heap.size W W2):W.grownBy W2 none:=⟨h.os,h.tape,h.output,h.size,fun k hk _=>h.block k hk⟩
theorem MRo.later (M:MRo P kt et size B w W b k K f X) (h:Below W.heap.size W W2):MRo P kt et size B w W2 b k K f X:=by
 obtain ⟨D,hD,hM⟩:=M.map
 have ak:b < W.heap.size:=by have:=M.hb;omega
 refine ⟨⟨D,?_,hM⟩,fun s=>(M.rows s).kept (ji h) ?_,M.apart,M.below.trans (h.mono M.below.size),M.hb.1,M.hb.2.1,Nat.le_trans M.hb.2.2 h.size⟩
 ·obtain ⟨es,c,h1,h2⟩:=hD;exact ⟨es,c,(h.block b ak).trans h1,h2⟩
 ·cases (HsV (f s)).ownBlock with
  | none=>exact .inl rfl
  | some g=>exact .inr (by simp)
theorem MRo.look (M:MRo P kt et size B w W b k K f X) (hK:Keyed P kt) (hk:P.underlying kt=some .string) {t st:TypeId} (ht:P.underlying t=some (.map kt st)) (hz:(zeroValue st).run P W = .ok (HsV hs0) W) (s:ByteArray) (hs:s.size <= maxLen) :
  (Instr.lookup t (.map (some b)) (.string s) false).run P W = .ok (HsV (f s)) W:=by
 obtain ⟨D,hD,hM⟩:=M.map;obtain ⟨v,ps,hr,hv⟩:=hD.lookup hK ht hz (zhH hs0) (Go.WideMaps.keyOf_string_mk hk hs);rw [hM.2 s] at hv;rw [hr,ziG hv]
structure MRm (P:Program) (kt et:TypeId) (size B:Nat) (w W:World) (b k:Nat) (K:ByteArray -> Prop) (f:ByteArray -> Hs) (X:ByteArray -> List Value) (s:ByteArray) (x:Hs) (Y:List Value):Prop where
 map:∃ D,W.ownsMap P kt RSl b k D/\MpS D K f
 row:W.ownsRow B et size (HsV x) x.n Y
 rows:∀ t,t≠s -> W.ownsRow B et size (HsV (f t)) (f t).n (X t)
 apart:∀ t u,t≠u -> ∀ g,(HsV (f t)).ownBlock=some g -> (HsV (f u)).ownBlock≠some g
 apartS:∀ t,t≠s -> ∀ g,(HsV (f t)).ownBlock=some g -> (HsV x).ownBlock≠some g
 below:Below w.heap.size w W
 hb:w.heap.size <= b/\b < B/\B <= W.heap.size
theorem MRo.app (M:MRo P kt et size B w W b k K f X) (s:ByteArray) {st ty:TypeId} {i:TypeInfo} {z:Value} {bytes:Nat} (a8:P.underlying st=some (.slice et)) (hi:P.info? et=some i) (hz:i.zero=some z) (hsize:i.size=size) (hby:i.bytes=bytes) (hzs:z.cells.size=size) (dP:0 < size)
  (a:Addr) (c:Nat) (news:List Value) (hl:news.length=size) (hnews:∀ j u,news[j]? = some u -> W.cell? (a.add j)=some u) (h1:∀ u∈news,u.oneCell'=true) (h63:(f s).n+1 <= maxLen) (hbytes:((f s).n+1) * bytes <= 140737488355328) :
  ∃ g c2 W2,(Builtin.append_ #[st,st] ty #[HsV (f s),.slice (some a) 1 c]).run P W = .ok (.slice (some ⟨g,0,none⟩) ((f s).n+1) c2) W2/\MRm P kt et size B w W2 b k K f X s ⟨some ⟨g,0,none⟩,(f s).n+1,c2⟩ (X s++news)/\∀ q,q < W.heap.size -> (HsV (f s)).ownBlock≠some q -> W2.heap[q]? = W.heap[q]?:=by
 obtain ⟨v',W2,dJ,aM,az,_,gZ⟩:=run_append_own_at (P:=P) W B st ty et i z size bytes a8 hi hz hsize hby hzs dP (HsV (f s)) (f s).n (X s) (M.rows s) a 1 c news (by omega) hnews h1 h63 hbytes M.hb.2.2;rcases aM.2 with ⟨h0,fh⟩ | ⟨g,cap2,cur,hv,dN,dy,hnc,eV,hcsz,htake⟩
 ·omega
 ·subst hv;obtain ⟨D,hD,hM⟩:=M.map
  have ak:b < W.heap.size:=by have:=M.hb;omega
  have dx:∀ k,(HsV (f s)).ownBlock=some k -> B <= k:=fun k hk=>((M.rows s).lt k hk).1;refine ⟨g,cap2,W2,dJ,⟨⟨D,?_,hM⟩,aM,fun t ht=>(M.rows t).kept az ?_,M.apart,fun t ht q hq e=>?_,M.below.grown az M.below.size (fun k hk=>by have:=dx k hk;have:=M.hb;omega),M.hb.1,M.hb.2.1,Nat.le_trans M.hb.2.2 az.size⟩,fun q hq hn=>az.block q hq (fun e=>hn e.symm)⟩
  ·obtain ⟨es,c,h1,h2⟩:=hD;exact ⟨es,c,(az.block b ak (fun e=>by have:=dx b e.symm;have:=M.hb;omega)).trans h1,h2⟩
  ·cases ho:(HsV (f t)).ownBlock with
   | none=>exact .inl rfl
   | some q=>exact .inr (fun e=>M.apart t s ht q ho e.symm)
  ·have oZ:=((M.rows t).lt q hq).2;rcases gZ with h | h
   ·rw [h] at e;exact M.apart t s ht q hq e
   ·rw [h] at e;have:=Option.some.inj e;omega
theorem MRm.put {s:ByteArray} {x:Hs} {Y:List Value} (M:MRm P kt et size B w W b k K f X s x Y) (hK:Keyed P kt) (hk:P.underlying kt=some .string) {t st:TypeId} (ht:P.underlying t=some (.map kt st)) (hs:s.size <= maxLen) (hn:k < maxLen) :
  ∃ W2,(Instr.mapUpdate t (.map (some b)) (.string s) (HsV x)).run P W = .ok () W2/\MRo P kt et size B w W2 b (k+1) (fun u=>u=s∨K u) (fun u=>if u=s then x else f u) (fun u=>if u=s then Y else X u)/\∀ q,q < W.heap.size -> q≠b -> W2.heap[q]? = W.heap[q]?:=by
 obtain ⟨D,hD,hM⟩:=M.map;have Iw:=hD.isMap;obtain ⟨W2,hr,ho,hg⟩:=hD.update hK ht hn (Go.WideMaps.keyOf_string_mk hk hs) (zhH x)
 have ch:∀ (v:Value) (n:Nat) (xs:List Value),W.ownsRow B et size v n xs -> v.ownBlock=none∨v.ownBlock≠some b:=fun v n xs h=>by
  cases hv:v.ownBlock with
  | none=>exact .inl rfl
  | some q=>exact .inr (fun e=>by have:=(h.lt q hv).1;have:=M.hb;have:=Option.some.inj e;omega)
 refine ⟨W2,hr,⟨⟨_,ho,zgf hM Iw s x _ (if_pos rfl) (fun u hu=>if_neg hu)⟩,fun u=>?_,fun u v huv g cT=>?_,M.below.grown hg M.below.size (fun j hj=>by cases hj;exact M.hb.1),M.hb.1,M.hb.2.1,Nat.le_trans M.hb.2.2 hg.size⟩,fun q hq hn=>hg.block q hq (fun e=>hn (Option.some.inj e))⟩
 ·by_cases hu:u=s
  ·simp only [if_pos hu];exact M.row.kept hg (ch _ _ _ M.row)
  ·simp only [if_neg hu];exact (M.rows u hu).kept hg (ch _ _ _ (M.rows u hu))
 ·by_cases hu:u=s
  ·have hv:¬ v=s:=fun e=>huv (hu.trans e.symm);simp only [if_pos hu,if_neg hv] at cT ⊢;exact fun e=>M.apartS v hv g e cT
  ·by_cases hv:v=s
   ·simp only [if_neg hu,if_pos hv] at cT ⊢;exact M.apartS u hu g cT
   ·simp only [if_neg hu,if_neg hv] at cT ⊢;exact M.apart u v huv g cT
theorem xx {W W2:World} {ops:Array Oper} {o:Oper} {a:Act} {K:Act -> World -> Prop} {Q:Exit -> Act -> World -> Prop} {E:Prop} {v1 v2 v':Value} {st:TypeId} (hgd:o.guard=none) (s x:Operand) (ho:o.op = .call { callee:=.builtin .append,args:=#[s,x],argTypes:=#[st,st] })
  (hs:a.eval s=v1) (hx:a.eval x=v2) (dJ:(Builtin.append_ #[st,st] o.type #[v1,v2]).run P W = .ok v' W2) (hK:K (a.put o.dst v') W2) :
  if Region.wanted o (yielded ops a.tmps)=true then Oper.wp P o a W K Q else E:=by
 have hw:Region.wanted o (yielded ops a.tmps)=true:=by simp [Region.wanted,hgd]
 rw [if_pos hw];unfold Oper.wp;simp [execOp,ho,resolve,invoke,builtin,hs,hx,dJ,Result.andThen];exact hK
theorem x7 {W W2:World} {ops:Array Oper} {rest:List Oper} {o:Oper} {a:Act} {Q:Exit -> Act -> World -> Prop} {v1 v2 v':Value} {st:TypeId} (hgd:o.guard=none) (s x:Operand) (ho:o.op = .call { callee:=.builtin .append,args:=#[s,x],argTypes:=#[st,st] })
  (hs:a.eval s=v1) (hx:a.eval x=v2) (dJ:(Builtin.append_ #[st,st] o.type #[v1,v2]).run P W = .ok v' W2) (hK:wpList P ops Q rest (a.put o.dst v') W2):wpList P ops Q (o :: rest) a W:=
 wpList_plain hgd fun K hKK=>by
  unfold Oper.wp;simp [execOp,ho,resolve,invoke,builtin,hs,hx,dJ,Result.andThen];exact hKK _ _ hK
end
section
open Go.RowKit Go.Maps Go.Sort
def pvs (L:List Pv):List Value:=(L.map (fun p=>(PC p).toList)).flatten
theorem yP (L R:List Pv):pvs (L++R)=pvs L++pvs R:=by simp [pvs]
theorem zen (p:Pv):pvs [p]=(PC p).toList:=by simp [pvs]
theorem j8 (L:List Pv):(pvs L).length=L.length * 2:=by
 induction L with
 | nil=>rfl
 | cons a L ih=>have:pvs (a :: L)=(PC a).toList++pvs L:=rfl;rw [this,List.length_append,ih];simp [PC];omega
theorem ziV (L:List Pv) (t j:Nat) (ht:t < L.length) (hj:j < 2):(pvs L)[t * 2+j]? = (PC L[t]).toList[j]?:=by
 induction L generalizing t with
 | nil=>simp at ht
 | cons a L ih =>
  have e:pvs (a :: L)=(PC a).toList++pvs L:=rfl
  cases t with
  | zero=>rw [e,List.getElem?_append_left (by simp [PC];omega)];simp
  | succ t =>
   rw [e,List.getElem?_append_right (by simp [PC];omega)];have h:=ih t (by simpa using ht)
   have e4:(t+1) * 2+j - (PC a).toList.length=t * 2+j:=by simp [PC];omega
   rw [e4,h];simp
theorem zcA (p:Pv):∀ v∈(PC p).toList,v.oneCell'=true:=by
 intro v hv;simp [PC] at hv;rcases hv with rfl | rfl <;> rfl
theorem mI:(Tryz.prog.info? 26).map (fun i=>(i.zero,i.size,i.bytes))=some (some (.agg #[.slice none 0 0,.slice none 0 0]),2,48):=by kernel_rfl
theorem zbY {W:World} {B:Nat} {h:Hs} {L:List Pv} (hr:W.ownsRow B 26 2 (HsV h) h.n (pvs L)) (hs:∀ p∈L,am W p):fq W h.o h.n L:=by
 have hl:L.length=h.n:=by have:=hr.1;rw [j8] at this;omega
 obtain ⟨o,n,c⟩:=h;rcases hr.2 with ⟨h0,fh⟩ | ⟨g,cap,cur,hv,dN,dy,hnc,eV,hcsz,htake⟩
 ·refine ⟨hl,fun _=>fh,fun ad e t p hp=>?_,hs⟩;have:=(List.getElem?_eq_some_iff.1 hp).1;omega
 ·simp only [Value.slice.injEq] at hv;obtain ⟨rfl,-,rfl⟩:=hv;refine ⟨hl,fun e=>(by cases e),fun ad e t p hp=>?_,hs⟩;obtain rfl:(⟨g,0,none⟩:Addr)=ad:=Option.some.inj e;obtain ⟨ht,MS⟩:=List.getElem?_eq_some_iff.1 hp
  have hc:∀ j,j < 2 -> W.cell? ⟨g,t * 2+j,none⟩=(PC p).toList[j]?:=fun j hj=>by
   have h1:=World.ownsRow.cellAt hr (t * 2+j) (by dsimp only at hl ⊢;omega);rw [h1,ziV L t j ht hj,MS]
  refine ⟨?_,?_⟩
  ·rw [Addr.add_lit,Nat.zero_add];exact hc 0 (by omega)
  ·rw [Addr.add_lit,Addr.add_lit,Nat.zero_add];exact hc 1 (by omega)
theorem zi2 {w W:World} {b B k:Nat} {K:ByteArray -> Prop} {f:ByteArray -> Hs} {X:ByteArray -> List Value} (M:MRo Tryz.prog 9 26 2 B w W b k K f X) (s:ByteArray) (p:Pv) (hn:(f s).n <= 2900000000000) :
  ∃ g c2 W2,(Builtin.append_ #[151,151] 151 #[HsV (f s),.slice (some ⟨W.heap.size,0,none⟩) 1 1]).run Tryz.prog (W.alloc (.cells (PC p) 26)) = .ok (.slice (some ⟨g,0,none⟩) ((f s).n+1) c2) W2/\MRm Tryz.prog 9 26 2 B w W2 b k K f X s ⟨some ⟨g,0,none⟩,(f s).n+1,c2⟩ (X s++(PC p).toList)/\∀ q,q < W.heap.size -> (HsV (f s)).ownBlock≠some q -> W2.heap[q]? = W.heap[q]?:=by
 obtain ⟨i0,hi,dg,dn,ee⟩:=info_parts mI
 obtain ⟨g,c2,W2,h1,h2,h3⟩:=(M.later (ze W (.cells (PC p) 26))).app s (ty:=151) Tryz.underlying151 hi dg dn ee (by simp [Value.cells]) (by decide) ⟨W.heap.size,0,none⟩ 1 (PC p).toList rfl (fun j u hj=>by
  rw [Addr.add_lit,Nat.zero_add,World.cell?_alloc_new]
  simpa using hj) (zcA p) (by unfold maxLen;omega) (by omega)
 exact ⟨g,c2,W2,h1,h2,fun q hq hn=>(h3 q (by simp;omega) hn).trans (Below.heap_alloc W _ q hq)⟩
structure io (B:Nat) (w W:World) (h:Hs) (L:List Pv):Prop where
 own:W.ownsRow B 26 2 (HsV h) h.n (pvs L)
 src:∀ p∈L,am W p
 below:Below w.heap.size w W
 hB:w.heap.size <= B/\B <= W.heap.size
theorem io.nil (w:World):io w.heap.size w w hs0 []:=⟨World.ownsRow_nil _ _ _ _,fun p h=>(by cases h),Below.refl _ _,Nat.le_refl _,Nat.le_refl _⟩
theorem io.later {B:Nat} {w W W2:World} {h:Hs} {L:List Pv} (O:io B w W h L) (hb:Below W.heap.size W W2):io B w W2 h L:=by
 refine ⟨O.own.kept (ji hb) ?_,fun p hp=>(O.src p hp).below hb,O.below.trans (hb.mono O.below.size),O.hB.1,Nat.le_trans O.hB.2 hb.size⟩
 cases (HsV h).ownBlock with
 | none=>exact .inl rfl
 | some g=>exact .inr (by simp)
theorem io.row {B:Nat} {w W:World} {h:Hs} {L:List Pv} (O:io B w W h L):fq W h.o h.n L:=zbY O.own O.src
end
section
open Go.RowKit Go.Maps Go.Sort
theorem xR {W W':World} {p:Pv} {g:Option Nat} (h:am W p) (hf:∀ k,g=some k -> dA p k) (hk:∀ q,q < W.heap.size -> some q≠g -> W'.heap[q]? = W.heap[q]?):am W' p:=by
 have ev:∀ ad,p.vo=some ad -> ∀ t,t < p.vn -> W'.cell? (ad.add t)=W.cell? (ad.add t):=fun ad e t ht=>by
  have hc:=h.vec.2.2 ad e t ht;have hl:=World.block_lt_of_cell? _ _ hc;rw [zs] at hl;unfold World.cell?;rw [zs,hk _ hl (fun eg=>(hf _ eg.symm).1 (by omega) ad e rfl)]
 have ec:∀ ad,p.co=some ad -> ∀ t,t < p.cn -> ∀ j,W'.cell? (ad.add j)=W.cell? (ad.add j):=fun ad e t ht j=>by
  have hl:=World.block_lt_of_cell? _ _ (h.cloud.cell ad e t ht).c0;rw [zs] at hl;unfold World.cell?;rw [zs,hk _ hl (fun eg=>(hf _ eg.symm).2 (by omega) ad e rfl)]
 refine ⟨⟨h.vec.1,h.vec.2.1,fun ad e t ht=>by rw [ev ad e t ht];exact h.vec.2.2 ad e t ht⟩,⟨h.cloud.len,h.cloud.nil,fun ad e t ht=>?_,h.cloud.big,h.cloud.cap⟩,h.big⟩;have A:=h.cloud.cell ad e t ht;have e':=ec ad e t ht;exact ⟨by rw [e'];exact A.c0,by have:=A.c1;rw [qC] at this ⊢;rw [e'];exact this,by have:=A.c2;rw [qC] at this ⊢;rw [e'];exact this⟩
def eC (h:Hs) (p:Pv):Prop:=∀ k,(HsV h).ownBlock=some k -> dA p k
theorem io.app {B:Nat} {w W:World} {h:Hs} {L:List Pv} (O:io B w W h L) (hF:∀ p∈L,eC h p) (p:Pv) (hp:am W p) (hf:eC h p) (hn:h.n <= 2900000000000) :
  ∃ g c2 W2,(Builtin.append_ #[151,151] 151 #[HsV h,.slice (some ⟨W.heap.size,0,none⟩) 1 1]).run Tryz.prog (W.alloc (.cells (PC p) 26)) = .ok (.slice (some ⟨g,0,none⟩) (h.n+1) c2) W2/\io B w W2 ⟨some ⟨g,0,none⟩,h.n+1,c2⟩ (L++[p])/\(∀ q∈L++[p],eC ⟨some ⟨g,0,none⟩,h.n+1,c2⟩ q)/\(∀ q,q < W.heap.size -> (HsV h).ownBlock≠some q -> W2.heap[q]? = W.heap[q]?):=by
 obtain ⟨i0,hi,dg,dn,ee⟩:=info_parts mI;have b1:=ze W (.cells (PC p) 26);have O1:=O.later b1
 obtain ⟨v',W2,dJ,aM,az,_,gZ⟩:=run_append_own_at (P:=Tryz.prog) (W.alloc (.cells (PC p) 26)) B 151 151 26 i0 (.agg #[.slice none 0 0,.slice none 0 0]) 2 48 Tryz.underlying151 hi dg dn ee (by simp [Value.cells]) (by decide) (HsV h) h.n (pvs L) O1.own ⟨W.heap.size,0,none⟩ 1 1 (PC p).toList rfl (fun j u hj=>by
  rw [Addr.add_lit,Nat.zero_add,World.cell?_alloc_new]
  simpa using hj) (zcA p) (by unfold maxLen;omega) (by omega) O1.hB.2
 rcases aM.2 with ⟨h0,fh⟩ | ⟨g,cap2,cur,hv,dN,dy,hnc,eV,hcsz,htake⟩
 ·omega
 ·subst hv
  have aR:∀ q∈L++[p],am (W.alloc (.cells (PC p) 26)) q/\eC h q:=fun q hq=>by
   rcases List.mem_append.1 hq with hq | hq
   ·exact ⟨O1.src q hq,hF q hq⟩
   ·obtain rfl:q=p:=by simpa using hq
    exact ⟨hp.below b1,hf⟩
  have dx:∀ k,(HsV h).ownBlock=some k -> B <= k:=fun k hk=>(O1.own.lt k hk).1;refine ⟨g,cap2,W2,dJ,⟨by rw [yP,zen];exact aM,fun q hq=>xR (aR q hq).1 (fun k hk=>(aR q hq).2 k hk) (fun k hk hn=>az.block k hk hn),O1.below.grown az O1.below.size (fun k hk=>by have:=dx k hk;have:=O.hB;omega),O.hB.1,Nat.le_trans O1.hB.2 az.size⟩,fun q hq k hk=>?_,fun q hq hn=>(az.block q (by simp;omega) (fun e=>hn e.symm)).trans (Below.heap_alloc W _ q hq)⟩;rcases gZ with e | e
  ·exact (aR q hq).2 k (by rw [<- e];exact hk)
  ·rw [e] at hk;have:=Option.some.inj hk;exact dA.old (aR q hq).1 (by omega)
/-! ### records -/
def rvs (L:List Rc):List Value:=(L.map (fun r=>(ReC (mkR r)).toList)).flatten
theorem yM (L R:List Rc):rvs (L++R)=rvs L++rvs R:=by simp [rvs]
theorem zhR (r:Rc):rvs [r]=(ReC (mkR r)).toList:=by simp [rvs]
theorem vw (L:List Rc):(rvs L).length=L.length * 3:=by
 induction L with
 | nil=>rfl
 | cons a L ih=>have:rvs (a :: L)=(ReC (mkR a)).toList++rvs L:=rfl;rw [this,List.length_append,ih];simp [ReC];omega
theorem zeb (L:List Rc) (t j:Nat) (ht:t < L.length) (hj:j < 3):(rvs L)[t * 3+j]? = (ReC (mkR (L.getD t rc0))).toList[j]?:=by
 induction L generalizing t with
 | nil=>simp at ht
 | cons a L ih =>
  have e:rvs (a :: L)=(ReC (mkR a)).toList++rvs L:=rfl
  cases t with
  | zero=>rw [e,List.getElem?_append_left (by simp [ReC];omega)];simp [List.getD]
  | succ t =>
   rw [e,List.getElem?_append_right (by simp [ReC];omega)];have h:=ih t (by simpa using ht)
   have e4:(t+1) * 3+j - (ReC (mkR a)).toList.length=t * 3+j:=by simp [ReC];omega
   rw [e4,h];simp [List.getD]
theorem bE (r:Rc):∀ v∈(ReC (mkR r)).toList,v.oneCell'=true:=by
 intro v hv;simp [ReC] at hv;rcases hv with rfl | rfl | rfl <;> rfl
theorem gT:(Tryz.prog.info? 78).map (fun i=>(i.zero,i.size,i.bytes))=some (some (.agg #[.string ⟨#[]⟩,.slice none 0 0,.slice none 0 0]),3,64):=by kernel_rfl
structure aO (B:Nat) (w W:World) (h:Hs) (L:List Rc):Prop where
 own:W.ownsRow B 78 3 (HsV h) h.n (rvs L)
 ok:∀ r∈L,cS W r/\eC h r.p
 below:Below w.heap.size w W
 hB:w.heap.size <= B/\B <= W.heap.size
theorem aO.nil (w:World):aO w.heap.size w w hs0 []:=⟨World.ownsRow_nil _ _ _ _,fun p h=>(by cases h),Below.refl _ _,Nat.le_refl _,Nat.le_refl _⟩
theorem aO.later {B:Nat} {w W W2:World} {h:Hs} {L:List Rc} (O:aO B w W h L) (hb:Below W.heap.size W W2):aO B w W2 h L:=by
 refine ⟨O.own.kept (ji hb) ?_,fun p hp=>⟨(O.ok p hp).1.below hb,(O.ok p hp).2⟩,O.below.trans (hb.mono O.below.size),O.hB.1,Nat.le_trans O.hB.2 hb.size⟩
 cases (HsV h).ownBlock with
 | none=>exact .inl rfl
 | some g=>exact .inr (by simp)
theorem aO.app {B:Nat} {w W:World} {h:Hs} {L:List Rc} (O:aO B w W h L) (r:Rc) (hp:cS W r) (hf:eC h r.p) (hn:h.n <= 2199023255551) :
  ∃ g c2 W2,(Builtin.append_ #[27,27] 27 #[HsV h,.slice (some ⟨W.heap.size,0,none⟩) 1 1]).run Tryz.prog (W.alloc (.cells (ReC (mkR r)) 78)) = .ok (.slice (some ⟨g,0,none⟩) (h.n+1) c2) W2/\aO B w W2 ⟨some ⟨g,0,none⟩,h.n+1,c2⟩ (L++[r])/\(∀ q,q < W.heap.size -> (HsV h).ownBlock≠some q -> W2.heap[q]? = W.heap[q]?):=by
 obtain ⟨i0,hi,dg,dn,ee⟩:=info_parts gT;have b1:=ze W (.cells (ReC (mkR r)) 78);have O1:=O.later b1
 obtain ⟨v',W2,dJ,aM,az,_,gZ⟩:=run_append_own_at (P:=Tryz.prog) (W.alloc (.cells (ReC (mkR r)) 78)) B 27 27 78 i0 (.agg #[.string ⟨#[]⟩,.slice none 0 0,.slice none 0 0]) 3 64 Tryz.underlying27 hi dg dn ee (by simp [Value.cells]) (by decide) (HsV h) h.n (rvs L) O1.own ⟨W.heap.size,0,none⟩ 1 1 (ReC (mkR r)).toList rfl (fun j u hj=>by
  rw [Addr.add_lit,Nat.zero_add,World.cell?_alloc_new]
  simpa using hj) (bE r) (by unfold maxLen;omega) (by omega) O1.hB.2
 rcases aM.2 with ⟨h0,fh⟩ | ⟨g,cap2,cur,hv,dN,dy,hnc,eV,hcsz,htake⟩
 ·omega
 ·subst hv
  have aR:∀ q∈L++[r],cS (W.alloc (.cells (ReC (mkR r)) 78)) q/\eC h q.p:=fun q hq=>by
   rcases List.mem_append.1 hq with hq | hq
   ·exact O1.ok q hq
   ·obtain rfl:q=r:=by simpa using hq
    exact ⟨hp.below b1,hf⟩
  have dx:∀ k,(HsV h).ownBlock=some k -> B <= k:=fun k hk=>(O1.own.lt k hk).1;refine ⟨g,cap2,W2,dJ,⟨by rw [yM,zhR];exact aM,fun q hq=>⟨⟨xR (aR q hq).1.1 (fun k hk=>(aR q hq).2 k hk) (fun k hk hn=>az.block k hk hn),(aR q hq).1.2⟩,fun k hk=>?_⟩,O1.below.grown az O1.below.size (fun k hk=>by have:=dx k hk;have:=O.hB;omega),O.hB.1,Nat.le_trans O1.hB.2 az.size⟩,fun q hq hn=>(az.block q (by simp;omega) (fun e=>hn e.symm)).trans (Below.heap_alloc W _ q hq)⟩;rcases gZ with e | e
  ·exact (aR q hq).2 k (by rw [<- e];exact hk)
  ·rw [e] at hk;have:=Option.some.inj hk;exact dA.old (aR q hq).1.1 (by omega)
theorem aO.src {B:Nat} {w W:World} {h:Hs} {L:List Rc} (O:aO B w W h L) (hn:h.n <= 2199023255552):RcS W h.o h.n h.c L:=by
 have hl:L.length=h.n:=by have:=O.own.1;rw [vw] at this;omega
 have iH:∀ r∈L,cS W r:=fun r hr=>(O.ok r hr).1;have hr:=O.own;obtain ⟨o,n,c⟩:=h;rcases hr.2 with ⟨h0,fh⟩ | ⟨g,cap,cur,hv,dN,dy,hnc,eV,hcsz,htake⟩
 ·refine ⟨hl,fun _=>fh,fun ad e t ht=>?_,iH,hn⟩;omega
 ·simp only [Value.slice.injEq] at hv;obtain ⟨rfl,-,rfl⟩:=hv;refine ⟨hl,fun e=>(by cases e),fun ad e t ht=>?_,iH,hn⟩;obtain rfl:(⟨g,0,none⟩:Addr)=ad:=Option.some.inj e
  have hc:∀ j,j < 3 -> W.cell? ⟨g,t * 3+j,none⟩=(ReC (mkR (L.getD t rc0))).toList[j]?:=fun j hj=>by
   have h1:=World.ownsRow.cellAt hr (t * 3+j) (by dsimp only at ht ⊢;omega);rw [h1,zeb L t j (by omega) hj]
  refine ⟨?_,?_,?_⟩
  ·rw [Addr.add_lit,Nat.zero_add];exact hc 0 (by omega)
  ·rw [Addr.add_lit,Addr.add_lit,Nat.zero_add];exact hc 1 (by omega)
  ·rw [Addr.add_lit,Addr.add_lit,Nat.zero_add];exact hc 2 (by omega)
end
end Go.Proofs.YtjffpimfngdggaaGreat
namespace Go.Proofs
open Go.Shelf
def Tryz.growRe_ren:Go.Shelf.Ren:=⟨fun | 4=>210 | n=>n,fun | 22=>27 | 25=>78 | 3=>3 | 4=>4 | 9=>9 | 20=>20 | 0=>0 | n=>n,fun | n=>n⟩
theorem Tryz.growRe:Go.Proofs.Lays8.n4 Tryz.prog Tryz.growRe_ren:={
 mixed:=by kernel_rfl
 f4:=⟨Tryz.f210.name,by decide,Tryz.func210.trans (congrArg some (by kernel_rfl))⟩
 t0:=Tryz.underlying0
 a0:=Tryz.isAgg0
 z0:=Tryz.sizeOf0
 v0:=Tryz.zeroValue0
 t3:=Tryz.underlying3
 a3:=Tryz.isAgg3
 z3:=Tryz.sizeOf3
 v3:=Tryz.zeroValue3
 t4:=Tryz.underlying4
 a4:=Tryz.isAgg4
 z4:=Tryz.sizeOf4
 v4:=Tryz.zeroValue4
 t9:=Tryz.underlying9
 a9:=Tryz.isAgg9
 z9:=Tryz.sizeOf9
 v9:=Tryz.zeroValue9
 t20:=Tryz.underlying20
 a20:=Tryz.isAgg20
 z20:=Tryz.sizeOf20
 v20:=Tryz.zeroValue20
 t22:=Tryz.underlying27
 a22:=Tryz.isAgg27
 z22:=Tryz.sizeOf27
 v22:=Tryz.zeroValue27 }
end Go.Proofs
namespace Go.Proofs.YtjffpimfngdggaaGreat
section
open Go.RowKit Go.Lib Go.Maps Go.Sort
theorem zea (R:List Rc):∀ v∈rvs R,v.oneCell'=true:=by
 intro v hv;obtain ⟨l,hl,hv⟩:=List.mem_flatten.1 hv;obtain ⟨r,-,rfl⟩:=List.mem_map.1 hl;exact bE r v hv
theorem RcS.cells {w:World} {ad:Addr} {n cap:Nat} {L:List Rc} (h:RcS w (some ad) n cap L):∀ j u,(rvs L)[j]? = some u -> w.cell? (ad.add j)=some u:=fun j u hj=>by
 have ak:j < L.length * 3:=by
  have:=(List.getElem?_eq_some_iff.1 hj).1;rwa [vw] at this
 have hn:=h.len
 have ht:j / 3 < n:=by omega
 have A:=h.at_ ad rfl (j / 3) ht
 have e:j=j / 3 * 3+j % 3:=by omega
 have hm:j % 3 < 3:=Nat.mod_lt _ (by decide);rw [e,zeb L (j / 3) (j % 3) (by omega) hm] at hj
 have hc:∀ i,i < 3 -> w.cell? ((ad.add (j / 3 * 3)).add i)=(ReC (mkR (L.getD (j / 3) rc0))).toList[i]?:=by
  intro i hi
  match i,hi with
  | 0,_=>rw [add_zero];exact A.c0
  | 1,_=>exact A.c1
  | 2,_=>exact A.c2
 rw [e,<- qC,hc _ hm,hj]
theorem aO.appAll {B:Nat} {w W:World} {h:Hs} {L:List Rc} (O:aO B w W h L) (bo:Option Addr) (m c:Nat) (R:List Rc) (hR:RcS W bo m c R) (hc:bo=none -> c=0) (hf:∀ r∈R,eC h r.p) (hn:h.n+m <= 2199023255552) :
  ∃ h2 W2,(Builtin.append_ #[27,27] 27 #[HsV h,.slice bo m c]).run Tryz.prog W = .ok (HsV h2) W2/\h2.n=h.n+m/\aO B w W2 h2 (L++R)/\(∀ q,q < W.heap.size -> (HsV h).ownBlock≠some q -> W2.heap[q]? = W.heap[q]?):=by
 obtain ⟨i0,hi,dg,dn,ee⟩:=info_parts gT
 cases bo with
 | none =>
  obtain rfl:c=0:=hc rfl;obtain rfl:m=0:=hR.nil rfl;obtain rfl:R=[]:=List.eq_nil_of_length_eq_zero hR.len;refine ⟨h,W,run_append_owned_none (P:=Tryz.prog) (w:=W) B 27 27 78 i0 3 Tryz.underlying27 hi _ h.n (rvs L) O.own,rfl,by rw [List.append_nil];exact O,fun q _ _=>rfl⟩
 | some ad =>
  obtain ⟨v',W2,dJ,aM,az,_,gZ⟩:=run_append_own_at (P:=Tryz.prog) W B 27 27 78 i0 (.agg #[.string ⟨#[]⟩,.slice none 0 0,.slice none 0 0]) 3 64 Tryz.underlying27 hi dg dn ee (by simp [Value.cells]) (by decide) (HsV h) h.n (rvs L) O.own ad m c (rvs R) (by rw [vw,hR.len]) hR.cells (zea R) (by unfold maxLen;omega) (by omega) O.hB.2
  have aR:∀ q∈L++R,cS W q/\eC h q.p:=fun q hq=>by
   rcases List.mem_append.1 hq with hq | hq
   ·exact O.ok q hq
   ·exact ⟨hR.ok q hq,hf q hq⟩
  have dx:∀ k,(HsV h).ownBlock=some k -> B <= k:=fun k hk=>(O.own.lt k hk).1;have mS:Below w.heap.size w W2:=O.below.grown az O.below.size (fun k hk=>by have:=dx k hk;have:=O.hB;omega);have J7:∀ q,q < W.heap.size -> (HsV h).ownBlock≠some q -> W2.heap[q]? = W.heap[q]?:=fun q hq hn=>az.block q hq (fun e=>hn e.symm);have nB:∀ q∈L++R,cS W2 q:=fun q hq=>⟨xR (aR q hq).1.1 (fun k hk=>(aR q hq).2 k hk) (fun k hk hn=>az.block k hk hn),(aR q hq).1.2⟩
  have key:∀ h2:Hs,v'=HsV h2 -> h2.n=h.n+m -> aO B w W2 h2 (L++R):=fun h2 e2 en=>by
   subst e2;refine ⟨by rw [yM,en];exact aM,fun q hq=>⟨nB q hq,fun k hk=>?_⟩,mS,O.hB.1,Nat.le_trans O.hB.2 az.size⟩;rcases gZ with e | e
   ·exact (aR q hq).2 k (by rw [<- e];exact hk)
   ·rw [e] at hk;have:=Option.some.inj hk;exact dA.old (aR q hq).1.1 (by omega)
  rcases aM.2 with ⟨h0,fh⟩ | ⟨g,cap2,cur,hv,dN,dy,hnc,eV,hcsz,htake⟩
  ·exact ⟨hs0,W2,by rw [dJ,h0];rfl,fh.symm,key hs0 h0 fh.symm,J7⟩
  ·exact ⟨⟨some ⟨g,0,none⟩,h.n+m,cap2⟩,W2,by rw [dJ,hv],rfl,key ⟨some ⟨g,0,none⟩,h.n+m,cap2⟩ hv rfl,J7⟩
theorem aO.appAt {B:Nat} {w W:World} {h:Hs} {L:List Rc} (O:aO B w W h L) (r:Rc) (hp:cS W r) (hf:eC h r.p) (hn:h.n <= 2199023255551) :
  ∃ g c2 W2,(Builtin.append_ #[27,27] 27 #[HsV h,.slice (some ⟨W.heap.size,0,none⟩) 1 1]).run Tryz.prog (W.alloc (.cells (ReC (mkR r)) 78)) = .ok (.slice (some ⟨g,0,none⟩) (h.n+1) c2) W2/\aO B w W2 ⟨some ⟨g,0,none⟩,h.n+1,c2⟩ (L++[r])/\(∀ q,q < W.heap.size -> (HsV h).ownBlock≠some q -> W2.heap[q]? = W.heap[q]?)/\((HsV h).ownBlock=some g∨W.heap.size <= g)/\W.heap.size <= W2.heap.size:=by
 obtain ⟨i0,hi,dg,dn,ee⟩:=info_parts gT;have b1:=ze W (.cells (ReC (mkR r)) 78);have O1:=O.later b1
 obtain ⟨v',W2,dJ,aM,az,_,gZ⟩:=run_append_own_at (P:=Tryz.prog) (W.alloc (.cells (ReC (mkR r)) 78)) B 27 27 78 i0 (.agg #[.string ⟨#[]⟩,.slice none 0 0,.slice none 0 0]) 3 64 Tryz.underlying27 hi dg dn ee (by simp [Value.cells]) (by decide) (HsV h) h.n (rvs L) O1.own ⟨W.heap.size,0,none⟩ 1 1 (ReC (mkR r)).toList rfl (fun j u hj=>by
  rw [Addr.add_lit,Nat.zero_add,World.cell?_alloc_new]
  simpa using hj) (bE r) (by unfold maxLen;omega) (by omega) O1.hB.2
 obtain ⟨g,cap2,W3,pL,O3,Lp⟩:=O.app r hp hf hn;rw [dJ] at pL
 have e1:v' = .slice (some ⟨g,0,none⟩) (h.n+1) cap2:=by cases pL;rfl
 have e2:W2=W3:=by cases pL;rfl
 subst e1 e2;refine ⟨g,cap2,W2,dJ,O3,Lp,?_,by have h1:=az.size;rw [World.size_alloc] at h1;omega⟩;rcases gZ with e | e
 ·exact .inl e.symm
 ·refine .inr ?_;have h1:=Option.some.inj (e.symm.trans (rfl:(Value.slice (some ⟨g,0,none⟩) (h.n+1) cap2).ownBlock=some g));simp at h1;omega
theorem zhr {w w':World} {ao:Option Addr} {n cap:Nat} {L:List Rc} (h:RcS w ao n cap L) (hk:∀ ad,ao=some ad -> w'.heap[ad.block]? = w.heap[ad.block]?) (hp:∀ r∈L,cS w' r):RcS w' ao n cap L:=by
 refine ⟨h.len,h.nil,fun ad ha t ht=>?_,hp,h.big⟩;have A:=h.at_ ad ha t ht
 have hc:∀ a:Addr,a.block=ad.block -> w'.cell? a=w.cell? a:=fun a e=>by unfold World.cell?;rw [e,hk ad ha]
 have e1:(ad.add (t * 3)).block=ad.block:=zs _ _;exact ⟨by rw [hc _ e1];exact A.c0,by rw [hc _ (by rw [zs];exact e1)];exact A.c1,by rw [hc _ (by rw [zs];exact e1)];exact A.c2⟩
theorem zfF (n:Nat):(Builtin.zeroCells (ReC re0) n).size=n * 3:=by simp [Builtin.zeroCells,ReC]
theorem zcj (w:World):Below w.heap.size w w.drew:=⟨rfl,rfl,rfl,Nat.le_refl _,fun _ _=>rfl⟩
theorem zdA (n:Nat) (w:World) (hn:n <= 2199023255552):Calls Tryz.prog 210 #[.slice none 0 0,.int .i64 n] w fun e w'=>∃ h:Hs,e = .returned (HsV h)/\h.n=0/\aO w.heap.size w w' h []:=by
 by_cases h0:n=0
 ·subst h0;refine Calls.mono (Any8.slices_Grow_room Tryz.growRe none 0 0 0 w (Nat.le_refl _) (by omega) (by omega) (Nat.le_refl _)) ?_;rintro e w' ⟨rfl,rfl⟩;exact ⟨hs0,rfl,rfl,aO.nil _⟩
 ·obtain ⟨i0,hi,dg,dn,ee⟩:=info_parts gT;have h:=Any8.slices_Grow_grow Tryz.growRe i0 _ hi dg (by rw [dn];omega) none 0 0 n [] w (Nat.le_refl _) (by omega) (by rw [ee];omega) (by omega) (by simp) (fun _=>rfl) (fun a ha=>by cases ha);rw [show Tryz.growRe_ren.t 25=78 from rfl] at h;refine Calls.mono h ?_;rintro e w' ⟨rfl,rfl⟩;have sl:=grownCap_ge w (0+n) 0 78;have ip:=grownCap_le_maxLen w (0+n) 0 78 (by unfold maxLen;omega);refine ⟨⟨some ⟨w.heap.size,0,none⟩,0,grownCap w (0+n) 0 78⟩,rfl,rfl,⟨⟨rfl,Or.inr ⟨w.heap.size,grownCap w (0+n) 0 78,_,rfl,Nat.le_refl _,heap_alloc_new w.drew _,Nat.zero_le _,ip,?_,by simp [rvs]⟩⟩,fun r hr=>(by cases hr),(zcj w).trans ((ze w.drew _).mono (Nat.le_refl _)),Nat.le_refl _,by simp⟩⟩
  have hc:(Value.agg #[.string ⟨#[]⟩,.slice none 0 0,.slice none 0 0]).cells=ReC re0:=by simp [Value.cells];rfl
  rw [hc];simp only [Array.size_append,zfF];rw [Nat.zero_add] at sl ⊢;simp;omega
theorem ze4 {w W:World} {B:Nat} {h:Hs} {L:List Rc} (O:aO B w W h L) {p:Pv} (hp:am w p):eC h p:=fun k hk=>dA.old hp (Nat.le_trans O.hB.1 (O.own.lt k hk).1)
theorem zbm (gb:Nat) (ao bo:Option Addr) (n cap m cap':Nat) (L R:List Rc) (w:World) (hS:RcS w ao n cap L) (hR:RcS w bo m cap' R) (ha:ao=none -> cap=0) (hb:bo=none -> cap'=0) (c0:w.cell? ⟨gb,0,none⟩=some (.slice ao n cap)) (c1:w.cell? ⟨gb,1,none⟩=some (.slice bo m cap')) (cF:n+m <= 2199023255552) :
  Calls Tryz.prog 170 #[.slice (some ⟨gb,0,none⟩) 2 2] w fun e w'=>∃ h:Hs,e = .returned (HsV h)/\h.n=n+m/\aO w.heap.size w w' h (L++R):=by
 have HS:=hide hS;have HR:=hide hR;have HA:=hide ha;have sX:=hide hb;have HL:Hid (L.length=n):=hS.len;have IN:Hid (R.length=m):=hR.len;have Eq:=hide c0;have mW:=hide c1;clear hS hR ha hb;go_enter Tryz.func170,Tryz.ntmps170;go_wp2_with fail;go_loopw [3,5,11] (fun s _ i wr=>∃ k z:Nat,k <= 2/\s = .int .i64 z/\i = .int .i64 k/\z=(if k=0 then 0 else if k=1 then n else n+m)/\w=wr) (fun _ _ i _=>2 - (intOf i).toNat)
 case atStart=>exact ⟨0,0,Nat.zero_le _,rfl,rfl,rfl,rfl⟩
 case round =>
  obtain ⟨k,z,hk,rfl,rfl,hz,rfl⟩:=hrel;by_cases h2:k=2
  ·subst h2;simp at hz;subst hz;clear c0 c1;go_wp2_with fail;refine (zdA (n+m) _ cF).mono ?_;rintro e w3 ⟨h3,rfl,KO,O3⟩;have lL:=hide O3;have Ku:=hide KO;clear O3 KO;go_wp2_with fail;go_loopw [6,8,27] (fun v _ i wr=>∃ (k:Nat) (h:Hs) (acc:List Rc),k <= 2/\v = .slice h.o h.n h.c/\i = .int .i64 k/\Hid (h.n=(if k=0 then 0 else if k=1 then n else n+m)/\acc=(if k=0 then [] else if k=1 then L else L++R)/\aO w.heap.size w wr h acc)) (fun _ _ i _=>2 - (intOf i).toNat)
   case atStart=>exact ⟨0,h3,[],Nat.zero_le _,rfl,rfl,Ku.out,rfl,lL.out⟩
   case round =>
    clear lL Ku;obtain ⟨k,h,acc,hk,rfl,rfl,H⟩:=hrel
    rename World=>w4
    have d0:w4.cell? ⟨gb,0,none⟩=some (.slice ao n cap):=by rw [H.out.2.2.below.cell (World.block_lt_of_cell? _ _ Eq.out)];exact Eq.out
    have d1:w4.cell? ⟨gb,1,none⟩=some (.slice bo m cap'):=by rw [H.out.2.2.below.cell (World.block_lt_of_cell? _ _ mW.out)];exact mW.out
    by_cases h2:k=2
    ·subst h2
     have HF:Hid (h.n=n+m/\aO w.heap.size w w4 h (L++R)):=by
      obtain ⟨q1,q2,q3⟩:=H.out;simp at q1 q2;rw [q2] at q3;exact ⟨q1,q3⟩
     clear d0 d1;go_wp2_with fail;go_ret;exact ⟨h,rfl,HF.out.1,HF.out.2⟩
    ·by_cases h1:k=1
     ·subst h1;obtain ⟨q1,q2,q3⟩:=H.out;simp at q1 q2;obtain ⟨h5,w5,CG,n5,O5,-⟩:=q3.appAll bo m cap' R (HR.out.below q3.below) sX.out (fun r hr=>ze4 q3 (HR.out.ok r hr).1) (by omega);have i8:Hid ((Builtin.append_ #[27,27] 27 #[.slice h.o h.n h.c,.slice bo m cap']).run Tryz.prog w4 = .ok (.slice h5.o h5.n h5.c) w5):=CG;have HN:Hid (h5.n=n+m/\aO w.heap.size w w5 h5 (L++R)):=⟨by omega,by rw [<- q2];exact O5⟩;clear CG n5 O5 q1 q2 q3;go_wp2_with (at_builtin;refine x7 rfl (.tmp 31) (.tmp 32) rfl rfl rfl i8.out ?_);go_roundw
      case rel=>exact ⟨1+1,h5,L++R,by omega,rfl,by go_num,by simp;exact HN.out.1,by simp,HN.out.2⟩
      case measure=>simp [intOf]
     ·obtain rfl:k=0:=by omega
      obtain ⟨q1,q2,q3⟩:=H.out;simp at q1 q2;obtain ⟨h5,w5,CG,n5,O5,-⟩:=q3.appAll ao n cap L (HS.out.below q3.below) HA.out (fun r hr=>ze4 q3 (HS.out.ok r hr).1) (by omega);have i8:Hid ((Builtin.append_ #[27,27] 27 #[.slice h.o h.n h.c,.slice ao n cap]).run Tryz.prog w4 = .ok (.slice h5.o h5.n h5.c) w5):=CG;have HN:Hid (h5.n=n/\aO w.heap.size w w5 h5 L):=⟨by omega,by rw [q2,List.nil_append] at O5;exact O5⟩;clear CG n5 O5 q1 q2 q3;go_wp2_with (at_builtin;refine x7 rfl (.tmp 31) (.tmp 32) rfl rfl rfl i8.out ?_);go_roundw
      case rel=>exact ⟨0+1,h5,L,by omega,rfl,by go_num,by simp;exact HN.out.1,by simp,HN.out.2⟩
      case measure=>simp [intOf]
  ·by_cases h1:k=1
   ·subst h1;simp at hz;subst hz;go_wp2_with fail;go_roundw
    case rel=>exact ⟨1+1,z+m,by omega,by go_num,by go_num,rfl,trivial⟩
    case measure=>simp [intOf]
   ·obtain rfl:k=0:=by omega
    simp at hz;subst hz;go_wp2_with fail;go_roundw
    case rel=>exact ⟨0+1,n,by omega,by go_num,by go_num,rfl,trivial⟩
    case measure=>simp [intOf]
end
section
open Go.RowKit
end
section
open Go.RowKit
theorem kw (w:World) (T:TypeId) (C:Array Value) (Z:List Int) (hC:C=(Z.map fun x=>Value.int .i64 x).toArray) (g n:Nat) (hg:w.heap.size=g) (hn:Z.length=n):V.Src (w.alloc (.cells C T)) (some ⟨g,0,none⟩) n n Z:=by
 subst hg hn hC;refine ⟨rfl,(fun h=>by cases h),fun ad h t ht=>?_⟩;obtain rfl:=Option.some.inj h;have h1:=heap_alloc_new w (.cells (Z.map fun x=>Value.int .i64 x).toArray T);rw [Addr.add_lit,Nat.zero_add];simp only [World.cell?,h1];simp [ht]
theorem zhW (w:World) (T:TypeId) (C:Array Value) (R:List Rc) (hC:C=(rvs R).toArray) (g n:Nat) (hg:w.heap.size=g) (hn:R.length=n) (hb:n <= 2199023255552) (iH:∀ r∈R,cS w r):RcS (w.alloc (.cells C T)) (some ⟨g,0,none⟩) n n R:=by
 subst hg hn hC;have b1:=ze w (.cells (rvs R).toArray T);refine ⟨rfl,(fun h=>by cases h),fun ad h t ht=>?_,fun r hr=>(iH r hr).below b1,hb⟩;obtain rfl:=Option.some.inj h
 have hc:∀ j,j < 3 -> (w.alloc (.cells (rvs R).toArray T)).cell? ⟨w.heap.size,t * 3+j,none⟩=(ReC (mkR (R.getD t rc0))).toList[j]?:=fun j hj=>by
  rw [World.cell?_alloc_new,List.getElem?_toArray,zeb R t j ht hj]
 rw [Addr.add_lit,Nat.zero_add];refine ⟨?_,?_,?_⟩
 ·exact hc 0 (by omega)
 ·rw [Addr.add_lit];exact hc 1 (by omega)
 ·rw [Addr.add_lit];exact hc 2 (by omega)
def BB (a:Array (Nat × Value)):Sem Value:=Instr.build 26 a
theorem yw (a:Array (Nat × Value)):Instr.build 26 a=BB a:=rfl
theorem kC (a:Option Addr) (n c:Nat) (w:World):(BB #[(0,.slice a n c)]).run Tryz.prog w = .ok (.agg #[.slice a n c,.slice none 0 0]) w:=by kernel_rfl
theorem zej (w:World):(BB #[]).run Tryz.prog w = .ok (.agg #[.slice none 0 0,.slice none 0 0]) w:=by kernel_rfl
def tO (a:Array (Nat × Value)):Sem Value:=Instr.build 78 a
theorem zaG (a:Array (Nat × Value)):Instr.build 78 a=tO a:=rfl
theorem zei (s:ByteArray) (a b:Option Addr) (n c m d:Nat) (w:World):(tO #[(0,.string s),(1,.agg #[.slice a n c,.slice b m d])]).run Tryz.prog w = .ok (.agg #[.string s,.slice a n c,.slice b m d]) w:=by kernel_rfl
theorem wO (s:ByteArray) (p:Pv) (w:World):(tO #[(0,.string s),(1,.agg (PC p))]).run Tryz.prog w = .ok (.agg (ReC (mkR ⟨s,p⟩))) w:=by kernel_rfl
def ES (a:Array (Nat × Value)):Sem Value:=Instr.build 50 a
theorem zch (a:Array (Nat × Value)):Instr.build 50 a=ES a:=rfl
theorem bN (a b q:Int) (s:ByteArray) (w:World):(ES #[(0,.agg #[.int .i64 a,.int .i64 b]),(1,.string s),(2,.int .i64 q)]).run Tryz.prog w = .ok (.agg #[.int .i64 a,.int .i64 b,.string s,.int .i64 q]) w:=by kernel_rfl
def EB (a:Array (Nat × Value)):Sem Value:=Instr.build 48 a
theorem zci (a:Array (Nat × Value)):Instr.build 48 a=EB a:=rfl
theorem bO (a b:Int) (w:World):(EB #[(0,.int .i64 a),(1,.int .i64 b)]).run Tryz.prog w = .ok (.agg #[.int .i64 a,.int .i64 b]) w:=by kernel_rfl
def uP (a:Array (Nat × Value)):Sem Value:=Instr.build 104 a
theorem zhc (a:Array (Nat × Value)):Instr.build 104 a=uP a:=rfl
theorem zeg (a b c:Int) (w:World):(uP #[(0,.int .i64 a),(1,.int .i64 b),(2,.int .i64 c)]).run Tryz.prog w = .ok (.agg #[.int .i64 a,.int .i64 b,.int .i64 c]) w:=by kernel_rfl
end
end Go.Proofs.YtjffpimfngdggaaGreat
