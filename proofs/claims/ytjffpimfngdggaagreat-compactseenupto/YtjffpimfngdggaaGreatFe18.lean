/- PBl PCq PCt SNe PCf Gsc -/
import Derived.Test.YtjffpimfngdggaaGreatTk
import Derived.Test.YtjffpimfngdggaaGreatFe17
import Derived.Test.YtjffpimfngdggaaGreatFe11
import Derived.Test.YtjffpimfngdggaaGreatFe10
import Derived.Test.YtjffpimfngdggaaGreatFe13
import Derived.Test.YtjffpimfngdggaaGreatFe00
import Derived.Shelf.Small.Strs
import Derived.Test.YtjffpimfngdggaaGreatProg
set_option maxRecDepth 100000
set_option maxHeartbeats 4000000
namespace Go.Proofs.YtjffpimfngdggaaGreat
section
open Go.RowKit
attribute [local go_sem ↓] zq zp
attribute [local go_sem] zE zi qm zj qJ
section
variable {n st : Nat} {wk : World} {Φ : Nat -> Value -> World -> Prop} {late : List Nat} {RL : List (Nat × (Pst -> Prop))} {AL : List (Nat × Nat × Nat)} {l : Array Bool} {W W' : World} {vs : List Value}
theorem BI.callF (hm:o7 Φ) (T:BI n st wk Φ late RL AL l W vs) (hb:Below W.heap.size W W') (i:Nat) (S:Pst -> Prop) (hi:i < n) (hl:l.getD i false=false) (_:(i,S)∈RL) (hu:∀ x,x∈RL -> x.1=i -> x.2=S) (p:Pv) (hS:am W' p) (hF:∀ g,wk.heap.size <= g -> g < W.heap.size -> dA p g) (hp:S p.P) (hΦ : ∀ v U,Φ i v U) (h2:∀ y,y∈AL -> y.1≠i/\y.2.1≠i) (h3:st≠i):BI n st wk Φ late RL AL (l.setIfInBounds i true) W' (vs.set i (PV p)):=by
 have T':=T.on hm hb
 have i9:i < vs.length:=by rw [T.ln];exact hi
 have ph:i < l.size:=by rw [T.sz];exact hi
 have st':(l.setIfInBounds i true).getD st false=l.getD st false:=zf (fun e=>h3 e.symm);refine ⟨by simpa using T.sz,by simpa using T.ln,T'.b,fun j hj lw ak=>?_,fun x hx hlx=>?_,fun y hy hly=>?_,fun y z hy hz ch hly hlz=>?_,fun y hy hls=>?_⟩
 ·by_cases e:i=j
  ·subst e;exact hΦ _ _
  ·rw [zD e];rw [zf e] at lw;rw [st'] at ak;exact T'.h j hj lw ak
 ·by_cases e:i=x.1
  ·have e2:=hu x hx e.symm;refine ⟨p,by rw [<- e,jY i9],hS,by rw [e2];exact hp,fun y hy hly g eg=>?_⟩;have fJ:i≠y.1:=fun e=>(h2 y hy).1 e.symm;rw [zf fJ] at hly;rw [zD fJ] at eg;obtain ⟨g',e',g1,g2,_⟩:=T.a y hy hly;obtain rfl:=xf (eg.symm.trans e');exact hF _ g1 g2
  ·rw [zf e] at hlx;rw [zD e];obtain ⟨p',e',S',q',f⟩:=T'.r x hx hlx;refine ⟨p',e',S',q',fun y hy hly=>?_⟩;have fJ:i≠y.1:=fun e=>(h2 y hy).1 e.symm;rw [zf fJ] at hly;rw [zD fJ];exact f y hy hly
 ·have fJ:i≠y.1:=fun e=>(h2 y hy).1 e.symm;have oQ:i≠y.2.1:=fun e=>(h2 y hy).2 e.symm;rw [zf fJ] at hly;rw [zD fJ,zf oQ];obtain ⟨g,e,g1,g2,g3,g4⟩:=T'.a y hy hly;refine ⟨g,e,g1,g2,g3,fun hs=>?_⟩
  have Dm:i≠y.2.2:=fun e=>by
   have:=(T.c y hy hs).2.1;rw [<- e,hl] at this
   cases this
  rw [zD Dm];exact g4 hs
 ·have fJ:i≠y.1:=fun e=>(h2 y hy).1 e.symm;have dn:i≠z.1:=fun e=>(h2 z hz).1 e.symm;rw [zf fJ] at hly;rw [zf dn] at hlz;rw [zD fJ,zD dn];exact T.d y z hy hz ch hly hlz
 ·have fJ:i≠y.1:=fun e=>(h2 y hy).1 e.symm;have oQ:i≠y.2.1:=fun e=>(h2 y hy).2 e.symm;rw [zf oQ] at hls;have hc:=T.c y hy hls;rw [zf fJ,st'];refine ⟨hc.1,?_,hc.2.2⟩;by_cases e:i=y.2.2
  ·rw [<- e];exact zX ph
  ·rw [zf e];exact hc.2.1
end
def i5 (w w':World) (e:Ending) (p:Pv) (Q:Pst -> Prop):Prop:=∃ q:Pv,e = .returned (PV q)/\am w' q/\(q=p∨du w.heap.size q)/\Below w.heap.size w w'/\Q q.P
theorem yU (a:Pv) (w:World) (hS:am w a):Calls Tryz.prog 204 #[PV a] w fun e w'=>i5 w w' e a (af (ae a.P)):=by
 have b0:=ze w (.cells (PC a) 26);have b1:=ze (w.alloc (.cells (PC a) 26)) (.cells (PC pv0) 26);have Ap:=zr (w.alloc (.cells (PC a) 26)) pv0;rw [World.size_alloc] at Ap;have eo:=hide ((zr w a).below b1);have aN:=hide (b0.trans (b1.mono b0.size));have HS:=hide (hS.below aN.out);have pf:=hide hS;have fA:=hide Ap;clear hS b0 b1 Ap;obtain ⟨wk,aY⟩:∃ wk,(w.alloc (.cells (PC a) 26)).alloc (.cells (PC pv0) 26)=wk:=⟨_,rfl⟩;rw [aY] at eo aN HS fA
 have HZ:Hid (wk.heap.size=w.heap.size+2):=by show _=_;rw [<- aY];simp
 have l1:=zl eo.out.at
 go_enter Tryz.func204,Tryz.ntmps204;go_wp2_with fail;clear aY;refine (qW a _ HS.out).mono ?_;rintro e w1 ⟨b,rfl,hb,b2⟩;have Mv:=hide hb;have cg:=wTr aN b2;have lR:=hide (fA.out.below b2);have dX:=hide (HS.out.below b2)
 have l2:=zl (eo.out.below b2).at
 have LZ:Hid (w.heap.size+2 <= w1.heap.size):=by have:=b2.size;have h:=HZ.out;show _ <= _;omega
 clear l1 hb b2 eo fA HS aN HZ
 cases b with
 | true =>
  have s1:=qQ (p':=a) lR.out;have dW:Hid (aA (w1.setRow (w.heap.size+1) (PC a)) (w.heap.size+1) a):=setRow_heap _ _ _ _ _ _ lR.out
  have lO:Hid (i5 w (w1.setRow (w.heap.size+1) (PC a)) (.returned (PV a)) a (af (ae a.P))):=by
   have hf:=Mv.out.out.1 rfl;exact ⟨a,rfl,dX.out.far (dA.old pf.out (by omega)) (fun q hq=>setRow_other _ _ _ _ hq),Or.inl rfl,zh cg.out (by omega),kf hf.1 hf.2⟩
  go_wp2_with fail;exact bodyPost_ret (v:=PV a) (eS Tryz.results204 rfl dW.out) rfl lO.out
 | false =>
  go_wp2_with fail;refine (jN a _ dX.out).mono ?_;rintro e w2 ⟨p,rfl,S2,n2,b3,c2⟩;obtain ⟨s1,e1,e2,e3,e4⟩:=qU (w:=w) (lR.out.below b3) S2 (n2.mono (by have:=LZ.out;omega)) (cg.out.trans (b3.mono cg.out.size)) (by omega);have dW:=hide e1;have lO:Hid (i5 w (w2.setRow (w.heap.size+1) (PC p)) (.returned (PV p)) a (af (ae a.P))):=⟨p,rfl,e2,Or.inr e3,e4,c2⟩;clear S2 n2 b3 c2 e1 e2 e3 e4 l2;go_wp2_with fail;exact bodyPost_ret (v:=PV p) (eS Tryz.results204 rfl dW.out) rfl lO.out
end
section
open Go.RowKit

theorem yp (x y:Int) (w:World):Calls Tryz.prog 138 #[.int .i64 x,.int .i64 y] w fun e w'=>e = .returned (.int .i64 (au x y))/\Below w.heap.size w w':=(qA x y w).mono fun _ _ h=>⟨h.1,by rw [h.2];exact Below.refl _ _⟩
def orL:List Int -> Int
 | []=>0
 | a :: t=>if a=0 then orL t else a
theorem yj {α : Type} (L:List α) (k:Nat) (d : α) (h:k < L.length):L.drop k=L.getD k d :: L.drop (k+1):=by
 rw [List.drop_eq_getElem_cons h];simp [List.getD,h]
theorem zes (ao:Option Addr) (n c:Nat) (Z:List Int) (w:World) (hS:V.Src w ao n c Z) (gn:n <= 17592186044415) :
  Calls Tryz.prog 137 #[.slice ao n c] w fun e w'=>e = .returned (.int .i64 (orL Z))/\Below w.heap.size w w':=by
 have HS:=hide hS;have HL:Hid (Z.length=n):=hS.1;clear hS;go_enter Tryz.func137,Tryz.ntmps137;go_wp2_with fail;go_loopw [8] (fun i wr=>∃ k:Nat,k <= n/\i = .int .i64 k/\Hid (orL Z=orL (Z.drop k))/\wr=w) (fun i _=>n - (intOf i).toNat)
 case atStart=>exact ⟨0,Nat.zero_le _,rfl,rfl,rfl⟩
 case round =>
  obtain ⟨k,hk,rfl,HO,rfl⟩:=hrel;by_cases ak:k < n
  ·obtain ⟨ad,rfl,ca⟩:=HS.out.at k ak;have HD:=hide (yj Z k 0 (by rw [HL.out];exact ak));obtain ⟨z,Hz⟩:∃ z,Hid (Z.getD k 0=z):=⟨_,rfl⟩;rw [Hz.out] at ca HD;by_cases h0:z=0
   ·have mF:(z != 0)=false:=by simpa using h0
    have HN:Hid (orL Z=orL (Z.drop (k+1))):=by show _=_;rw [HO.out,HD.out,orL,if_pos h0]
    clear h0;go_wp2_with fail;go_roundw
    case rel=>exact ⟨k+1,by omega,by go_num,HN,by trivial⟩
    case measure=>simp [intOf];omega
   ·have mF:(z != 0)=true:=by simpa using h0
    have HN:Hid (orL Z=z):=by show _=_;rw [HO.out,HD.out,orL,if_neg h0]
    clear h0;go_wp2_with fail;go_ret;exact ⟨zH HN.out.symm,Below.refl _ _⟩
  ·obtain rfl:k=n:=by omega
   have HN:Hid (orL Z=0):=by show _=_;rw [HO.out,List.drop_of_length_le (by rw [HL.out];exact Nat.le_refl _)];rfl
   go_wp2_with fail;go_ret;exact ⟨zH HN.out.symm,Below.refl _ _⟩
section
variable {α : Type} {c : α -> α -> Int} {A B : List α} {k : Nat}
theorem zcJ (hc:Tot c) (h:A.take k=B.take k) (ha:k < A.length) (hb:B.length=k):lex c A B=1:=by
 rw [jC hc A B k h (by omega) (by omega),List.drop_of_length_le (l:=B) (by omega),List.drop_eq_getElem_cons ha];rfl
theorem zcK (hc:Tot c) (h:A.take k=B.take k) (ha:A.length=k) (hb:k < B.length):lex c A B = -1:=by
 rw [jC hc A B k h (by omega) (by omega),List.drop_of_length_le (l:=A) (by omega),List.drop_eq_getElem_cons hb];rfl
theorem zcI (hc:Tot c) (h:A.take k=B.take k) (ha:A.length=k) (hb:B.length=k):lex c A B=0:=by
 rw [jC hc A B k h (by omega) (by omega),List.drop_of_length_le (l:=A) (by omega),List.drop_of_length_le (l:=B) (by omega)];rfl
theorem zcL (hc:Tot c) (d : α) (h:A.take k=B.take k) (ha:k < A.length) (hb:k < B.length) (hn:¬ c (A.getD k d) (B.getD k d)=0):lex c A B=c (A.getD k d) (B.getD k d):=by
 rw [jC hc A B k h (by omega) (by omega),yj A k d ha,yj B k d hb,lex,if_neg hn]
theorem zd2 (hc:Tot c) (d : α) (h:A.take k=B.take k) (ha:k < A.length) (hb:k < B.length) (hn:c (A.getD k d) (B.getD k d)=0):A.take (k+1)=B.take (k+1):=by
 have e:=(hc.eq _ _).1 hn;rw [List.take_succ_eq_append_getElem ha,List.take_succ_eq_append_getElem hb,h];simp only [List.getD,List.getElem?_eq_getElem ha,List.getElem?_eq_getElem hb,Option.getD_some] at e;rw [e]
end
theorem bz (ao bo:Option Addr) (n cn m cm:Nat) (A B:List Int) (w:World) (hA:V.Src w ao n cn A) (hB:V.Src w bo m cm B) (gn:n <= 17592186044415) (_:m <= 17592186044415) :
  Calls Tryz.prog 205 #[.slice ao n cn,.slice bo m cm] w fun e w'=>e = .returned (.int .i64 (lex au A B))/\Below w.heap.size w w':=by
 have HA:=hide hA;have HB:=hide hB;have oP:Hid (A.length=n):=hA.1;have oN:Hid (B.length=m):=hB.1;clear hA hB;go_enter Tryz.func205,Tryz.ntmps205;go_wp2_with fail;go_loopw [11] (fun i wr=>∃ k:Nat,k <= n/\i = .int .i64 k/\Hid (A.take k=B.take k/\k <= m)/\wr=w) (fun i _=>n - (intOf i).toNat)
 case atStart=>exact ⟨0,Nat.zero_le _,rfl,⟨rfl,Nat.zero_le _⟩,rfl⟩
 case round =>
  obtain ⟨k,hk,rfl,HO,rfl⟩:=hrel;have M0:=HO.out.2;by_cases ak:k < n
  ·obtain ⟨ad,rfl,ca⟩:=HA.out.at k ak;by_cases hm:k < m
   ·obtain ⟨bd,rfl,cb⟩:=HB.out.at k hm
    have gl:Hid (k < A.length):=by rw [oP.out];exact ak
    have gL:Hid (k < B.length):=by rw [oN.out];exact hm
    have pW:¬ (m:Int) <= (k:Int):=by omega
    by_cases h0:au (A.getD k 0) (B.getD k 0)=0
    ·have HN:=hide (zd2 xi 0 HO.out.1 gl.out gL.out h0);obtain ⟨z,hz⟩:∃ z,au (A.getD k 0) (B.getD k 0)=z:=⟨_,rfl⟩;have HZ:=hide hz;rw [hz] at h0;subst h0;clear hz;obtain ⟨x,hx⟩:∃ x,A.getD k 0=x:=⟨_,rfl⟩;obtain ⟨y,hy⟩:∃ y,B.getD k 0=y:=⟨_,rfl⟩;rw [hx] at ca HZ;rw [hy] at cb HZ;clear hx hy;go_wp2_with (go_at_call 138;refine (qA x y _).mono ?_;rintro e w' ⟨rfl,rfl⟩;rw [HZ.out]);go_roundw
     case rel=>exact ⟨k+1,by omega,by go_num,⟨HN.out,by omega⟩,by trivial⟩
     case measure=>simp [intOf];omega
    ·have HN:=hide (zcL xi 0 HO.out.1 gl.out gL.out h0);obtain ⟨z,hz⟩:∃ z,au (A.getD k 0) (B.getD k 0)=z:=⟨_,rfl⟩;have HZ:=hide hz;rw [hz] at h0 HN
     have mF:(z != 0)=true:=by simpa using h0
     clear hz h0;obtain ⟨x,hx⟩:∃ x,A.getD k 0=x:=⟨_,rfl⟩;obtain ⟨y,hy⟩:∃ y,B.getD k 0=y:=⟨_,rfl⟩;rw [hx] at ca HZ;rw [hy] at cb HZ;clear hx hy;go_wp2_with (go_at_call 138;refine (qA x y _).mono ?_;rintro e w' ⟨rfl,rfl⟩;rw [HZ.out]);go_ret;exact ⟨zH HN.out.symm,Below.refl _ _⟩
   ·have pW:(m:Int) <= (k:Int):=by omega
    have HN:=hide (zcJ xi HO.out.1 (by rw [oP.out];exact ak) (by rw [oN.out];omega));go_wp2_with fail;go_ret;exact ⟨zH HN.out.symm,Below.refl _ _⟩
  ·obtain rfl:k=n:=by omega
   by_cases hm:k < m
   ·have pW:(k:Int) < (m:Int):=by omega
    have HN:=hide (zcK xi HO.out.1 oP.out (by rw [oN.out];exact hm));go_wp2_with fail;go_ret;exact ⟨zH HN.out.symm,Below.refl _ _⟩
   ·have pW:¬ (k:Int) < (m:Int):=by omega
    have HN:=hide (zcI xi HO.out.1 oP.out (by rw [oN.out];omega));go_wp2_with fail;go_ret;exact ⟨zH HN.out.symm,Below.refl _ _⟩
end
section
open Go.RowKit
theorem EJ (w:World) (x y z:Int) (C:Array Value) (hC:C=#[.int .i64 x,.int .i64 y,.int .i64 z]) (T:TypeId):V.Src (w.alloc (.cells C T)) (some ⟨w.heap.size,0,none⟩) 3 3 [x,y,z]:=by
 subst hC;refine ⟨rfl,fun h=>(by cases h),fun ad h t ht=>?_⟩;obtain rfl:=Option.some.inj h;rw [Addr.add_lit,Nat.zero_add,World.cell?_alloc_new]
 have:t=0∨t=1∨t=2:=by omega
 rcases this with rfl | rfl | rfl <;> rfl
attribute [local go_sem ↓] xT jn
attribute [local go_sem] xN qB ko qY
theorem ziX (x y:Sn):orL [au x.rep y.rep,au x.lo y.lo,au x.hi y.hi]=de x y:=by
 unfold de;simp only [orL];by_cases e:au x.hi y.hi=0
 ·rw [if_pos e,e]
 ·rw [if_neg e]
theorem zhY (x y:Sn) (ao:Option Addr) (w:World) (hS:V.Src w ao 3 3 [au x.rep y.rep,au x.lo y.lo,au x.hi y.hi]) :
  Calls Tryz.prog 137 #[.slice ao 3 3] w fun e w'=>e = .returned (.int .i64 (de x y))/\Below w.heap.size w w':=by
 rw [<- ziX];exact zes ao 3 3 _ w hS (by omega)
def PhC (sx sy:Sn) (w:World) (_:World):Nat -> Value -> World -> Prop
 | 0,x,_=>x = .pointer (some ⟨w.heap.size,0,none⟩)
 | 1,x,_=>x = .int .i64 sx.rep
 | 2,x,_=>x = .pointer (some ⟨w.heap.size+1,0,none⟩)
 | 3,x,_=>x = .int .i64 sy.rep
 | 4,x,_=>x = .int .i64 (au sx.rep sy.rep)
 | 5,x,_=>x = .pointer (some ⟨w.heap.size,1,none⟩)
 | 6,x,_=>x = .int .i64 sx.lo
 | 7,x,_=>x = .pointer (some ⟨w.heap.size+1,1,none⟩)
 | 8,x,_=>x = .int .i64 sy.lo
 | 9,x,_=>x = .int .i64 (au sx.lo sy.lo)
 | 10,x,_=>x = .pointer (some ⟨w.heap.size,2,none⟩)
 | 11,x,_=>x = .int .i64 sx.hi
 | 12,x,_=>x = .pointer (some ⟨w.heap.size+1,2,none⟩)
 | 13,x,_=>x = .int .i64 sy.hi
 | 14,x,_=>x = .int .i64 (au sx.hi sy.hi)
 | 15,x,W=>∃ g,x = .slice (some ⟨g,0,none⟩) 3 3/\V.Src W (some ⟨g,0,none⟩) 3 3 [au sx.rep sy.rep,au sx.lo sy.lo,au sx.hi sy.hi]
 | 16,x,_=>x = .int .i64 (de sx sy)
 | 17,x,_=>x = .int .i64 (de sx sy)
 | _,_,_=>True
theorem qp (sx sy:Sn) (w:World) (W0:World):o7 (PhC sx sy w W0):=fun i x W W' h hb=>match i with
 | 0=>h
 | 1=>h
 | 2=>h
 | 3=>h
 | 4=>h
 | 5=>h
 | 6=>h
 | 7=>h
 | 8=>h
 | 9=>h
 | 10=>h
 | 11=>h
 | 12=>h
 | 13=>h
 | 14=>h
 | 15=>by obtain ⟨g,e,R⟩:=h;exact ⟨g,e,R.below hb⟩
 | 16=>h
 | 17=>h
 | _+18=>trivial
theorem stC {sx sy:Sn} {w wk:World} (HX:Hid (dr wk w.heap.size sx)) (HY:Hid (dr wk (w.heap.size+1) sy)) {Q:Exit -> Act -> World -> Prop} :
  ∀ (l:Array Bool) (x:Act) (W:World),(∃ v1x0 v1x1 v1x2 v1x3 v1x4 v1x5 v1x6 v1x7 v1x8 v1x9 v1x10 v1x11 v1x12 v1x13 v1x14 v1x15 v1x16 v1x17,x={ tmps:=#[SV sx,SV sy,ptr w.heap.size,ptr (w.heap.size+1),v1x17,v1x0,v1x1,v1x2,v1x3,v1x4,v1x5,v1x6,v1x7,v1x8,v1x9,v1x10,v1x11,v1x12,v1x13,v1x14,v1x15,v1x16],defers:=[] }/\BI 18 25 wk (PhC sx sy w wk) [] [] [] l W [v1x0,v1x1,v1x2,v1x3,v1x4,v1x5,v1x6,v1x7,v1x8,v1x9,v1x10,v1x11,v1x12,v1x13,v1x14,v1x15,v1x16,v1x17]) -> ∀ i,i∈Region.ready .any #[⟨some 5,.fieldAddr 104 (.tmp 2) 0,0, "sets.go:70",#[],none⟩,⟨some 6,.load 3 (.tmp 5),3, "sets.go:70",#[⟨0,.data⟩],none⟩,⟨some 7,.fieldAddr 104 (.tmp 3) 0,0, "sets.go:70",#[],none⟩,⟨some 8,.load 3 (.tmp 7),3, "sets.go:70",#[⟨2,.data⟩],none⟩,⟨some 9,.call ⟨.value (.func 138),#[.tmp 6,.tmp 8],#[3,3]⟩,3, "sets.go:70",#[⟨1,.data⟩,⟨3,.data⟩],none⟩,⟨some 10,.fieldAddr 104 (.tmp 2) 1,0, "sets.go:70",#[],none⟩,⟨some 11,.load 3 (.tmp 10),3, "sets.go:70",#[⟨5,.data⟩],none⟩,⟨some 12,.fieldAddr 104 (.tmp 3) 1,0, "sets.go:70",#[],none⟩,⟨some 13,.load 3 (.tmp 12),3, "sets.go:70",#[⟨7,.data⟩],none⟩,⟨some 14,.call ⟨.value (.func 138),#[.tmp 11,.tmp 13],#[3,3]⟩,3, "sets.go:70",#[⟨6,.data⟩,⟨8,.data⟩,⟨4,.chain⟩],none⟩,⟨some 15,.fieldAddr 104 (.tmp 2) 2,0, "sets.go:70",#[],none⟩,⟨some 16,.load 3 (.tmp 15),3, "sets.go:70",#[⟨10,.data⟩],none⟩,⟨some 17,.fieldAddr 104 (.tmp 3) 2,0, "sets.go:70",#[],none⟩,⟨some 18,.load 3 (.tmp 17),3, "sets.go:70",#[⟨12,.data⟩],none⟩,⟨some 19,.call ⟨.value (.func 138),#[.tmp 16,.tmp 18],#[3,3]⟩,3, "sets.go:70",#[⟨11,.data⟩,⟨13,.data⟩,⟨9,.chain⟩],none⟩,⟨some 20,.buildSlice 23 3 #[(0,.tmp 9),(1,.tmp 14),(2,.tmp 19)],23, "sets.go:70",#[⟨4,.data⟩,⟨9,.data⟩,⟨14,.data⟩],none⟩,⟨some 21,.call ⟨.value (.func 137),#[.tmp 20],#[23]⟩,3, "sets.go:70",#[⟨15,.data⟩,⟨14,.chain⟩],none⟩,⟨some 4,.assign (.tmp 21),3, "sets.go:70",#[⟨16,.data⟩,⟨16,.chain⟩,⟨0,.phase⟩,⟨1,.phase⟩,⟨2,.phase⟩,⟨3,.phase⟩,⟨4,.phase⟩,⟨5,.phase⟩,⟨6,.phase⟩,⟨7,.phase⟩,⟨8,.phase⟩,⟨9,.phase⟩,⟨10,.phase⟩,⟨11,.phase⟩,⟨12,.phase⟩,⟨13,.phase⟩,⟨14,.phase⟩,⟨15,.phase⟩,⟨16,.phase⟩],none⟩] l -> wpOp Tryz.prog #[⟨some 5,.fieldAddr 104 (.tmp 2) 0,0, "sets.go:70",#[],none⟩,⟨some 6,.load 3 (.tmp 5),3, "sets.go:70",#[⟨0,.data⟩],none⟩,⟨some 7,.fieldAddr 104 (.tmp 3) 0,0, "sets.go:70",#[],none⟩,⟨some 8,.load 3 (.tmp 7),3, "sets.go:70",#[⟨2,.data⟩],none⟩,⟨some 9,.call ⟨.value (.func 138),#[.tmp 6,.tmp 8],#[3,3]⟩,3, "sets.go:70",#[⟨1,.data⟩,⟨3,.data⟩],none⟩,⟨some 10,.fieldAddr 104 (.tmp 2) 1,0, "sets.go:70",#[],none⟩,⟨some 11,.load 3 (.tmp 10),3, "sets.go:70",#[⟨5,.data⟩],none⟩,⟨some 12,.fieldAddr 104 (.tmp 3) 1,0, "sets.go:70",#[],none⟩,⟨some 13,.load 3 (.tmp 12),3, "sets.go:70",#[⟨7,.data⟩],none⟩,⟨some 14,.call ⟨.value (.func 138),#[.tmp 11,.tmp 13],#[3,3]⟩,3, "sets.go:70",#[⟨6,.data⟩,⟨8,.data⟩,⟨4,.chain⟩],none⟩,⟨some 15,.fieldAddr 104 (.tmp 2) 2,0, "sets.go:70",#[],none⟩,⟨some 16,.load 3 (.tmp 15),3, "sets.go:70",#[⟨10,.data⟩],none⟩,⟨some 17,.fieldAddr 104 (.tmp 3) 2,0, "sets.go:70",#[],none⟩,⟨some 18,.load 3 (.tmp 17),3, "sets.go:70",#[⟨12,.data⟩],none⟩,⟨some 19,.call ⟨.value (.func 138),#[.tmp 16,.tmp 18],#[3,3]⟩,3, "sets.go:70",#[⟨11,.data⟩,⟨13,.data⟩,⟨9,.chain⟩],none⟩,⟨some 20,.buildSlice 23 3 #[(0,.tmp 9),(1,.tmp 14),(2,.tmp 19)],23, "sets.go:70",#[⟨4,.data⟩,⟨9,.data⟩,⟨14,.data⟩],none⟩,⟨some 21,.call ⟨.value (.func 137),#[.tmp 20],#[23]⟩,3, "sets.go:70",#[⟨15,.data⟩,⟨14,.chain⟩],none⟩,⟨some 4,.assign (.tmp 21),3, "sets.go:70",#[⟨16,.data⟩,⟨16,.chain⟩,⟨0,.phase⟩,⟨1,.phase⟩,⟨2,.phase⟩,⟨3,.phase⟩,⟨4,.phase⟩,⟨5,.phase⟩,⟨6,.phase⟩,⟨7,.phase⟩,⟨8,.phase⟩,⟨9,.phase⟩,⟨10,.phase⟩,⟨11,.phase⟩,⟨12,.phase⟩,⟨13,.phase⟩,⟨14,.phase⟩,⟨15,.phase⟩,⟨16,.phase⟩],none⟩] Q i (fun a' w'=>∃ v1x0 v1x1 v1x2 v1x3 v1x4 v1x5 v1x6 v1x7 v1x8 v1x9 v1x10 v1x11 v1x12 v1x13 v1x14 v1x15 v1x16 v1x17,a'={ tmps:=#[SV sx,SV sy,ptr w.heap.size,ptr (w.heap.size+1),v1x17,v1x0,v1x1,v1x2,v1x3,v1x4,v1x5,v1x6,v1x7,v1x8,v1x9,v1x10,v1x11,v1x12,v1x13,v1x14,v1x15,v1x16],defers:=[] }/\BI 18 25 wk (PhC sx sy w wk) [] [] [] (l.setIfInBounds i true) w' [v1x0,v1x1,v1x2,v1x3,v1x4,v1x5,v1x6,v1x7,v1x8,v1x9,v1x10,v1x11,v1x12,v1x13,v1x14,v1x15,v1x16,v1x17]) x W:=by
 rintro l x W ⟨v1x0,v1x1,v1x2,v1x3,v1x4,v1x5,v1x6,v1x7,v1x8,v1x9,v1x10,v1x11,v1x12,v1x13,v1x14,v1x15,v1x16,v1x17,rfl,T⟩ i hi;obtain ⟨cv,cC,aH⟩:=qS hi;have aU:=jO cC
 have hc:i=0∨i=1∨i=2∨i=3∨i=4∨i=5∨i=6∨i=7∨i=8∨i=9∨i=10∨i=11∨i=12∨i=13∨i=14∨i=15∨i=16∨i=17:=by have h:i < 18:=cv;omega
 have HT:=hide T;clear T;rcases hc with rfl | rfl | rfl | rfl | rfl | rfl | rfl | rfl | rfl | rfl | rfl | rfl | rfl | rfl | rfl | rfl | rfl | rfl
 ·have HL:=hide aU;clear hi cv cC aH aU;refine wpOp_step (o:=⟨some 5,.fieldAddr 104 (.tmp 2) 0,0, "sets.go:70",#[],none⟩) rfl (fun K hK=>?_);go_simp;exact hK _ _ ⟨.pointer (some ⟨w.heap.size,0,none⟩),v1x1,v1x2,v1x3,v1x4,v1x5,v1x6,v1x7,v1x8,v1x9,v1x10,v1x11,v1x12,v1x13,v1x14,v1x15,v1x16,v1x17,rfl,HT.out.plain (qp sx sy w wk) (Below.refl _ _) 0 (by decide) HL.out _ rfl (by simp) (by simp) (by decide)⟩
 ·have d0:=aH _ rfl { on:=0,ground:=Ground.data } (by simp) rfl;have e0:v1x0 = .pointer (some ⟨w.heap.size,0,none⟩):=HT.out.h 0 (by decide) d0 (fun hm=>absurd hm (by decide));subst e0;have HL:=hide aU;clear hi cv cC aH aU d0;have c1:=(HX.out.below HT.out.b).at.1;refine wpOp_step (o:=⟨some 6,.load 3 (.tmp 5),3, "sets.go:70",#[⟨0,.data⟩],none⟩) rfl (fun K hK=>?_);go_simp;exact hK _ _ ⟨_,.int .i64 sx.rep,v1x2,v1x3,v1x4,v1x5,v1x6,v1x7,v1x8,v1x9,v1x10,v1x11,v1x12,v1x13,v1x14,v1x15,v1x16,v1x17,rfl,HT.out.plain (qp sx sy w wk) (Below.refl _ _) 1 (by decide) HL.out _ rfl (by simp) (by simp) (by decide)⟩
 ·have HL:=hide aU;clear hi cv cC aH aU;refine wpOp_step (o:=⟨some 7,.fieldAddr 104 (.tmp 3) 0,0, "sets.go:70",#[],none⟩) rfl (fun K hK=>?_);go_simp;exact hK _ _ ⟨v1x0,v1x1,.pointer (some ⟨w.heap.size+1,0,none⟩),v1x3,v1x4,v1x5,v1x6,v1x7,v1x8,v1x9,v1x10,v1x11,v1x12,v1x13,v1x14,v1x15,v1x16,v1x17,rfl,HT.out.plain (qp sx sy w wk) (Below.refl _ _) 2 (by decide) HL.out _ rfl (by simp) (by simp) (by decide)⟩
 ·have d2:=aH _ rfl { on:=2,ground:=Ground.data } (by simp) rfl;have e2:v1x2 = .pointer (some ⟨w.heap.size+1,0,none⟩):=HT.out.h 2 (by decide) d2 (fun hm=>absurd hm (by decide));subst e2;have HL:=hide aU;clear hi cv cC aH aU d2;have c1:=(HY.out.below HT.out.b).at.1;refine wpOp_step (o:=⟨some 8,.load 3 (.tmp 7),3, "sets.go:70",#[⟨2,.data⟩],none⟩) rfl (fun K hK=>?_);go_simp;exact hK _ _ ⟨v1x0,v1x1,_,.int .i64 sy.rep,v1x4,v1x5,v1x6,v1x7,v1x8,v1x9,v1x10,v1x11,v1x12,v1x13,v1x14,v1x15,v1x16,v1x17,rfl,HT.out.plain (qp sx sy w wk) (Below.refl _ _) 3 (by decide) HL.out _ rfl (by simp) (by simp) (by decide)⟩
 ·have d1:=aH _ rfl { on:=1,ground:=Ground.data } (by simp) rfl;have d3:=aH _ rfl { on:=3,ground:=Ground.data } (by simp) rfl;have e1:v1x1 = .int .i64 sx.rep:=HT.out.h 1 (by decide) d1 (fun hm=>absurd hm (by decide));subst e1;have e3:v1x3 = .int .i64 sy.rep:=HT.out.h 3 (by decide) d3 (fun hm=>absurd hm (by decide));subst e3;have HL:=hide aU;clear hi cv cC aH aU d1 d3;refine wpOp_step (o:=⟨some 9,.call ⟨.value (.func 138),#[.tmp 6,.tmp 8],#[3,3]⟩,3, "sets.go:70",#[⟨1,.data⟩,⟨3,.data⟩],none⟩) rfl (fun K hK=>?_);go_simp;go_wp2_with fail;refine (yp sx.rep sy.rep _).mono ?_;rintro e w' ⟨rfl,pb⟩;exact hK _ _ ⟨v1x0,_,v1x2,_,.int .i64 (au sx.rep sy.rep),v1x5,v1x6,v1x7,v1x8,v1x9,v1x10,v1x11,v1x12,v1x13,v1x14,v1x15,v1x16,v1x17,rfl,HT.out.plain (qp sx sy w wk) pb 4 (by decide) HL.out _ rfl (by simp) (by simp) (by decide)⟩
 ·have HL:=hide aU;clear hi cv cC aH aU;refine wpOp_step (o:=⟨some 10,.fieldAddr 104 (.tmp 2) 1,0, "sets.go:70",#[],none⟩) rfl (fun K hK=>?_);go_simp;exact hK _ _ ⟨v1x0,v1x1,v1x2,v1x3,v1x4,.pointer (some ⟨w.heap.size,1,none⟩),v1x6,v1x7,v1x8,v1x9,v1x10,v1x11,v1x12,v1x13,v1x14,v1x15,v1x16,v1x17,rfl,HT.out.plain (qp sx sy w wk) (Below.refl _ _) 5 (by decide) HL.out _ rfl (by simp) (by simp) (by decide)⟩
 ·have d5:=aH _ rfl { on:=5,ground:=Ground.data } (by simp) rfl;have e5:v1x5 = .pointer (some ⟨w.heap.size,1,none⟩):=HT.out.h 5 (by decide) d5 (fun hm=>absurd hm (by decide));subst e5;have HL:=hide aU;clear hi cv cC aH aU d5;have c1:=(HX.out.below HT.out.b).at.2.1;refine wpOp_step (o:=⟨some 11,.load 3 (.tmp 10),3, "sets.go:70",#[⟨5,.data⟩],none⟩) rfl (fun K hK=>?_);go_simp;exact hK _ _ ⟨v1x0,v1x1,v1x2,v1x3,v1x4,_,.int .i64 sx.lo,v1x7,v1x8,v1x9,v1x10,v1x11,v1x12,v1x13,v1x14,v1x15,v1x16,v1x17,rfl,HT.out.plain (qp sx sy w wk) (Below.refl _ _) 6 (by decide) HL.out _ rfl (by simp) (by simp) (by decide)⟩
 ·have HL:=hide aU;clear hi cv cC aH aU;refine wpOp_step (o:=⟨some 12,.fieldAddr 104 (.tmp 3) 1,0, "sets.go:70",#[],none⟩) rfl (fun K hK=>?_);go_simp;exact hK _ _ ⟨v1x0,v1x1,v1x2,v1x3,v1x4,v1x5,v1x6,.pointer (some ⟨w.heap.size+1,1,none⟩),v1x8,v1x9,v1x10,v1x11,v1x12,v1x13,v1x14,v1x15,v1x16,v1x17,rfl,HT.out.plain (qp sx sy w wk) (Below.refl _ _) 7 (by decide) HL.out _ rfl (by simp) (by simp) (by decide)⟩
 ·have d7:=aH _ rfl { on:=7,ground:=Ground.data } (by simp) rfl;have e7:v1x7 = .pointer (some ⟨w.heap.size+1,1,none⟩):=HT.out.h 7 (by decide) d7 (fun hm=>absurd hm (by decide));subst e7;have HL:=hide aU;clear hi cv cC aH aU d7;have c1:=(HY.out.below HT.out.b).at.2.1;refine wpOp_step (o:=⟨some 13,.load 3 (.tmp 12),3, "sets.go:70",#[⟨7,.data⟩],none⟩) rfl (fun K hK=>?_);go_simp;exact hK _ _ ⟨v1x0,v1x1,v1x2,v1x3,v1x4,v1x5,v1x6,_,.int .i64 sy.lo,v1x9,v1x10,v1x11,v1x12,v1x13,v1x14,v1x15,v1x16,v1x17,rfl,HT.out.plain (qp sx sy w wk) (Below.refl _ _) 8 (by decide) HL.out _ rfl (by simp) (by simp) (by decide)⟩
 ·have d6:=aH _ rfl { on:=6,ground:=Ground.data } (by simp) rfl;have d8:=aH _ rfl { on:=8,ground:=Ground.data } (by simp) rfl;have e6:v1x6 = .int .i64 sx.lo:=HT.out.h 6 (by decide) d6 (fun hm=>absurd hm (by decide));subst e6;have e8:v1x8 = .int .i64 sy.lo:=HT.out.h 8 (by decide) d8 (fun hm=>absurd hm (by decide));subst e8;have HL:=hide aU;clear hi cv cC aH aU d6 d8;refine wpOp_step (o:=⟨some 14,.call ⟨.value (.func 138),#[.tmp 11,.tmp 13],#[3,3]⟩,3, "sets.go:70",#[⟨6,.data⟩,⟨8,.data⟩,⟨4,.chain⟩],none⟩) rfl (fun K hK=>?_);go_simp;go_wp2_with fail;refine (yp sx.lo sy.lo _).mono ?_;rintro e w' ⟨rfl,pb⟩;exact hK _ _ ⟨v1x0,v1x1,v1x2,v1x3,v1x4,v1x5,_,v1x7,_,.int .i64 (au sx.lo sy.lo),v1x10,v1x11,v1x12,v1x13,v1x14,v1x15,v1x16,v1x17,rfl,HT.out.plain (qp sx sy w wk) pb 9 (by decide) HL.out _ rfl (by simp) (by simp) (by decide)⟩
 ·have HL:=hide aU;clear hi cv cC aH aU;refine wpOp_step (o:=⟨some 15,.fieldAddr 104 (.tmp 2) 2,0, "sets.go:70",#[],none⟩) rfl (fun K hK=>?_);go_simp;exact hK _ _ ⟨v1x0,v1x1,v1x2,v1x3,v1x4,v1x5,v1x6,v1x7,v1x8,v1x9,.pointer (some ⟨w.heap.size,2,none⟩),v1x11,v1x12,v1x13,v1x14,v1x15,v1x16,v1x17,rfl,HT.out.plain (qp sx sy w wk) (Below.refl _ _) 10 (by decide) HL.out _ rfl (by simp) (by simp) (by decide)⟩
 ·have d10:=aH _ rfl { on:=10,ground:=Ground.data } (by simp) rfl;have e10:v1x10 = .pointer (some ⟨w.heap.size,2,none⟩):=HT.out.h 10 (by decide) d10 (fun hm=>absurd hm (by decide));subst e10;have HL:=hide aU;clear hi cv cC aH aU d10;have c1:=(HX.out.below HT.out.b).at.2.2;refine wpOp_step (o:=⟨some 16,.load 3 (.tmp 15),3, "sets.go:70",#[⟨10,.data⟩],none⟩) rfl (fun K hK=>?_);go_simp;exact hK _ _ ⟨v1x0,v1x1,v1x2,v1x3,v1x4,v1x5,v1x6,v1x7,v1x8,v1x9,_,.int .i64 sx.hi,v1x12,v1x13,v1x14,v1x15,v1x16,v1x17,rfl,HT.out.plain (qp sx sy w wk) (Below.refl _ _) 11 (by decide) HL.out _ rfl (by simp) (by simp) (by decide)⟩
 ·have HL:=hide aU;clear hi cv cC aH aU;refine wpOp_step (o:=⟨some 17,.fieldAddr 104 (.tmp 3) 2,0, "sets.go:70",#[],none⟩) rfl (fun K hK=>?_);go_simp;exact hK _ _ ⟨v1x0,v1x1,v1x2,v1x3,v1x4,v1x5,v1x6,v1x7,v1x8,v1x9,v1x10,v1x11,.pointer (some ⟨w.heap.size+1,2,none⟩),v1x13,v1x14,v1x15,v1x16,v1x17,rfl,HT.out.plain (qp sx sy w wk) (Below.refl _ _) 12 (by decide) HL.out _ rfl (by simp) (by simp) (by decide)⟩
 ·have d12:=aH _ rfl { on:=12,ground:=Ground.data } (by simp) rfl;have e12:v1x12 = .pointer (some ⟨w.heap.size+1,2,none⟩):=HT.out.h 12 (by decide) d12 (fun hm=>absurd hm (by decide));subst e12;have HL:=hide aU;clear hi cv cC aH aU d12;have c1:=(HY.out.below HT.out.b).at.2.2;refine wpOp_step (o:=⟨some 18,.load 3 (.tmp 17),3, "sets.go:70",#[⟨12,.data⟩],none⟩) rfl (fun K hK=>?_);go_simp;exact hK _ _ ⟨v1x0,v1x1,v1x2,v1x3,v1x4,v1x5,v1x6,v1x7,v1x8,v1x9,v1x10,v1x11,_,.int .i64 sy.hi,v1x14,v1x15,v1x16,v1x17,rfl,HT.out.plain (qp sx sy w wk) (Below.refl _ _) 13 (by decide) HL.out _ rfl (by simp) (by simp) (by decide)⟩
 ·have d11:=aH _ rfl { on:=11,ground:=Ground.data } (by simp) rfl;have d13:=aH _ rfl { on:=13,ground:=Ground.data } (by simp) rfl;have e11:v1x11 = .int .i64 sx.hi:=HT.out.h 11 (by decide) d11 (fun hm=>absurd hm (by decide));subst e11;have e13:v1x13 = .int .i64 sy.hi:=HT.out.h 13 (by decide) d13 (fun hm=>absurd hm (by decide));subst e13;have HL:=hide aU;clear hi cv cC aH aU d11 d13;refine wpOp_step (o:=⟨some 19,.call ⟨.value (.func 138),#[.tmp 16,.tmp 18],#[3,3]⟩,3, "sets.go:70",#[⟨11,.data⟩,⟨13,.data⟩,⟨9,.chain⟩],none⟩) rfl (fun K hK=>?_);go_simp;go_wp2_with fail;refine (yp sx.hi sy.hi _).mono ?_;rintro e w' ⟨rfl,pb⟩;exact hK _ _ ⟨v1x0,v1x1,v1x2,v1x3,v1x4,v1x5,v1x6,v1x7,v1x8,v1x9,v1x10,_,v1x12,_,.int .i64 (au sx.hi sy.hi),v1x15,v1x16,v1x17,rfl,HT.out.plain (qp sx sy w wk) pb 14 (by decide) HL.out _ rfl (by simp) (by simp) (by decide)⟩
 ·have d4:=aH _ rfl { on:=4,ground:=Ground.data } (by simp) rfl;have d9:=aH _ rfl { on:=9,ground:=Ground.data } (by simp) rfl;have d14:=aH _ rfl { on:=14,ground:=Ground.data } (by simp) rfl;have e4:v1x4 = .int .i64 (au sx.rep sy.rep):=HT.out.h 4 (by decide) d4 (fun hm=>absurd hm (by decide));subst e4;have e9:v1x9 = .int .i64 (au sx.lo sy.lo):=HT.out.h 9 (by decide) d9 (fun hm=>absurd hm (by decide));subst e9;have e14:v1x14 = .int .i64 (au sx.hi sy.hi):=HT.out.h 14 (by decide) d14 (fun hm=>absurd hm (by decide));subst e14;have HL:=hide aU;clear hi cv cC aH aU d4 d9 d14;refine wpOp_step (o:=⟨some 20,.buildSlice 23 3 #[(0,.tmp 9),(1,.tmp 14),(2,.tmp 19)],23, "sets.go:70",#[⟨4,.data⟩,⟨9,.data⟩,⟨14,.data⟩],none⟩) rfl (fun K hK=>?_);go_simp;exact hK _ _ ⟨v1x0,v1x1,v1x2,v1x3,_,v1x5,v1x6,v1x7,v1x8,_,v1x10,v1x11,v1x12,v1x13,_,.slice (some ⟨W.heap.size,0,none⟩) 3 3,v1x16,v1x17,rfl,HT.out.plain (qp sx sy w wk) (ze _ _) 15 (by decide) HL.out _ ⟨_,rfl,EJ W _ _ _ _ rfl _⟩ (by simp) (by simp) (by decide)⟩
 ·have d15:=aH _ rfl { on:=15,ground:=Ground.data } (by simp) rfl;obtain ⟨g15,e15,R15⟩:∃ g,v1x15 = .slice (some ⟨g,0,none⟩) 3 3/\V.Src W (some ⟨g,0,none⟩) 3 3 [au sx.rep sy.rep,au sx.lo sy.lo,au sx.hi sy.hi]:=HT.out.h 15 (by decide) d15 (fun hm=>absurd hm (by decide));subst e15;have IB:=hide R15;clear R15;have HL:=hide aU;clear hi cv cC aH aU d15;refine wpOp_step (o:=⟨some 21,.call ⟨.value (.func 137),#[.tmp 20],#[23]⟩,3, "sets.go:70",#[⟨15,.data⟩,⟨14,.chain⟩],none⟩) rfl (fun K hK=>?_);go_simp;go_wp2_with fail;refine (zhY sx sy _ _ IB.out).mono ?_;rintro e w' ⟨rfl,pb⟩;exact hK _ _ ⟨v1x0,v1x1,v1x2,v1x3,v1x4,v1x5,v1x6,v1x7,v1x8,v1x9,v1x10,v1x11,v1x12,v1x13,v1x14,_,.int .i64 (de sx sy),v1x17,rfl,HT.out.plain (qp sx sy w wk) pb 16 (by decide) HL.out _ rfl (by simp) (by simp) (by decide)⟩
 ·have d16:=aH _ rfl { on:=16,ground:=Ground.data } (by simp) rfl;have e16:v1x16 = .int .i64 (de sx sy):=HT.out.h 16 (by decide) d16 (fun hm=>absurd hm (by decide));subst e16;have HL:=hide aU;clear hi cv cC aH aU d16;refine wpOp_step (o:=⟨some 4,.assign (.tmp 21),3, "sets.go:70",#[⟨16,.data⟩,⟨16,.chain⟩,⟨0,.phase⟩,⟨1,.phase⟩,⟨2,.phase⟩,⟨3,.phase⟩,⟨4,.phase⟩,⟨5,.phase⟩,⟨6,.phase⟩,⟨7,.phase⟩,⟨8,.phase⟩,⟨9,.phase⟩,⟨10,.phase⟩,⟨11,.phase⟩,⟨12,.phase⟩,⟨13,.phase⟩,⟨14,.phase⟩,⟨15,.phase⟩,⟨16,.phase⟩],none⟩) rfl (fun K hK=>?_);go_simp;exact hK _ _ ⟨v1x0,v1x1,v1x2,v1x3,v1x4,v1x5,v1x6,v1x7,v1x8,v1x9,v1x10,v1x11,v1x12,v1x13,v1x14,v1x15,_,.int .i64 (de sx sy),rfl,HT.out.plain (qp sx sy w wk) (Below.refl _ _) 17 (by decide) HL.out _ rfl (by simp) (by simp) (by decide)⟩
theorem vU (sx sy:Sn) (w:World):Calls Tryz.prog 207 #[SV sx,SV sy] w fun e w'=>e = .returned (.int .i64 (de sx sy))/\Below w.heap.size w w':=by
 have b1:=ze w (.cells (SC sx) 104);have b2:=ze (w.alloc (.cells (SC sx) 104)) (.cells (SC sy) 104);have X1:=(qH w sx).below b2;have X2:=qH (w.alloc (.cells (SC sx) 104)) sy;rw [World.size_alloc] at X2;have HX:=hide X1;have HY:=hide X2;have iK:=hide (b1.trans (b2.mono b1.size));clear b1 b2 X1 X2;obtain ⟨wk,aY⟩:∃ wk,(w.alloc (.cells (SC sx) 104)).alloc (.cells (SC sy) 104)=wk:=⟨_,rfl⟩;rw [aY] at HX HY iK;go_enter Tryz.func207,Tryz.ntmps207;go_wp2_with fail;clear aY;refine qq (by kernel_rfl) (fun l x W=>∃ v1x0 v1x1 v1x2 v1x3 v1x4 v1x5 v1x6 v1x7 v1x8 v1x9 v1x10 v1x11 v1x12 v1x13 v1x14 v1x15 v1x16 v1x17,x={ tmps:=#[SV sx,SV sy,ptr w.heap.size,ptr (w.heap.size+1),v1x17,v1x0,v1x1,v1x2,v1x3,v1x4,v1x5,v1x6,v1x7,v1x8,v1x9,v1x10,v1x11,v1x12,v1x13,v1x14,v1x15,v1x16],defers:=[] }/\BI 18 25 wk (PhC sx sy w wk) [] [] [] l W [v1x0,v1x1,v1x2,v1x3,v1x4,v1x5,v1x6,v1x7,v1x8,v1x9,v1x10,v1x11,v1x12,v1x13,v1x14,v1x15,v1x16,v1x17]) ⟨undef,undef,undef,undef,undef,undef,undef,undef,undef,undef,undef,undef,undef,undef,undef,undef,undef,.int .i64 0,rfl,BI.start _ _ _ _ _ _ _ _ rfl⟩ ?_ ?_ ?_
 ·rintro l x W ⟨v1x0,v1x1,v1x2,v1x3,v1x4,v1x5,v1x6,v1x7,v1x8,v1x9,v1x10,v1x11,v1x12,v1x13,v1x14,v1x15,v1x16,v1x17,rfl,T⟩;exact T.sz
 ·exact stC HX HY
 ·rintro l x W ⟨v1x0,v1x1,v1x2,v1x3,v1x4,v1x5,v1x6,v1x7,v1x8,v1x9,v1x10,v1x11,v1x12,v1x13,v1x14,v1x15,v1x16,v1x17,rfl,T⟩ ei;have aR:=fun i (hi:i < 18)=>q8 (by kernel_rfl) T.sz ei i hi;have HT:=hide T;clear T ei;have e0:v1x0 = .pointer (some ⟨w.heap.size,0,none⟩):=HT.out.h 0 (by decide) (aR 0 (by decide)) (fun hm=>absurd hm (by decide));subst e0;have e1:v1x1 = .int .i64 sx.rep:=HT.out.h 1 (by decide) (aR 1 (by decide)) (fun hm=>absurd hm (by decide));subst e1;have e2:v1x2 = .pointer (some ⟨w.heap.size+1,0,none⟩):=HT.out.h 2 (by decide) (aR 2 (by decide)) (fun hm=>absurd hm (by decide));subst e2;have e3:v1x3 = .int .i64 sy.rep:=HT.out.h 3 (by decide) (aR 3 (by decide)) (fun hm=>absurd hm (by decide));subst e3;have e4:v1x4 = .int .i64 (au sx.rep sy.rep):=HT.out.h 4 (by decide) (aR 4 (by decide)) (fun hm=>absurd hm (by decide))
  subst e4;have e5:v1x5 = .pointer (some ⟨w.heap.size,1,none⟩):=HT.out.h 5 (by decide) (aR 5 (by decide)) (fun hm=>absurd hm (by decide));subst e5;have e6:v1x6 = .int .i64 sx.lo:=HT.out.h 6 (by decide) (aR 6 (by decide)) (fun hm=>absurd hm (by decide));subst e6;have e7:v1x7 = .pointer (some ⟨w.heap.size+1,1,none⟩):=HT.out.h 7 (by decide) (aR 7 (by decide)) (fun hm=>absurd hm (by decide));subst e7;have e8:v1x8 = .int .i64 sy.lo:=HT.out.h 8 (by decide) (aR 8 (by decide)) (fun hm=>absurd hm (by decide));subst e8;have e9:v1x9 = .int .i64 (au sx.lo sy.lo):=HT.out.h 9 (by decide) (aR 9 (by decide)) (fun hm=>absurd hm (by decide));subst e9;have e10:v1x10 = .pointer (some ⟨w.heap.size,2,none⟩):=HT.out.h 10 (by decide) (aR 10 (by decide)) (fun hm=>absurd hm (by decide));subst e10;have e11:v1x11 = .int .i64 sx.hi:=HT.out.h 11 (by decide) (aR 11 (by decide)) (fun hm=>absurd hm (by decide))
  subst e11;have e12:v1x12 = .pointer (some ⟨w.heap.size+1,2,none⟩):=HT.out.h 12 (by decide) (aR 12 (by decide)) (fun hm=>absurd hm (by decide));subst e12;have e13:v1x13 = .int .i64 sy.hi:=HT.out.h 13 (by decide) (aR 13 (by decide)) (fun hm=>absurd hm (by decide));subst e13;have e14:v1x14 = .int .i64 (au sx.hi sy.hi):=HT.out.h 14 (by decide) (aR 14 (by decide)) (fun hm=>absurd hm (by decide));subst e14;have e16:v1x16 = .int .i64 (de sx sy):=HT.out.h 16 (by decide) (aR 16 (by decide)) (fun hm=>absurd hm (by decide));subst e16;have e17:v1x17 = .int .i64 (de sx sy):=HT.out.h 17 (by decide) (aR 17 (by decide)) (fun hm=>absurd hm (by decide));subst e17;have by1:=HT.out.b
  rename World=>y1
  clear aR HT l;replace HX:=hide (HX.out.below by1);replace HY:=hide (HY.out.below by1);have pG:=wTr iK by1;clear by1;go_wp2_with fail;go_ret;exact ⟨rfl,pG.out⟩
theorem yB (ao bo:Option Addr) (n cn m cm:Nat) (A B:List Sn) (w:World) (hA:cN w ao n cn A) (hB:cN w bo m cm B) :
  Calls Tryz.prog 206 #[.slice ao n cn,.slice bo m cm,.func (.func 207) #[] #[]] w fun e w'=>e = .returned (.int .i64 (lex de A B))/\Below w.heap.size w w':=by
 have HA:=hide hA;have HB:=hide hB;have oP:=hide hA.len;have oN:=hide hB.len;have gn:=hA.big;have gm:=hB.big;clear hA hB;go_enter Tryz.func206,Tryz.ntmps206;go_wp2_with fail;go_loopw [13] (fun i wr=>∃ k:Nat,k <= n/\i = .int .i64 k/\Hid ((A.take k=B.take k/\k <= m)/\Below w.heap.size w wr)) (fun i _=>n - (intOf i).toNat)
 case atStart=>exact ⟨0,Nat.zero_le _,rfl,⟨rfl,Nat.zero_le _⟩,Below.refl _ _⟩
 case round =>
  obtain ⟨k,hk,rfl,HO⟩:=hrel
  rename World=>w6
  have M0:=HO.out.1.2;by_cases ak:k < n
  ·obtain ⟨ad,eO,ca⟩:=(HA.out.below HO.out.2).at k ak;subst eO;obtain ⟨x,Hx⟩:∃ x,Hid (A.getD k sn0=x):=⟨_,rfl⟩;rw [Hx.out] at ca;have l1:=qk ca;obtain ⟨w7,a8,X7,b7,z7⟩:=lE w6 x w6.heap.size rfl;have sE:=hide X7;have dH:=hide (HO.out.2.trans (b7.mono HO.out.2.size));clear X7 ca;by_cases hm:k < m
   ·obtain ⟨bd,Ly,cb⟩:=((HB.out.below HO.out.2).below b7).at k hm;subst Ly;obtain ⟨y,Hy⟩:∃ y,Hid (B.getD k sn0=y):=⟨_,rfl⟩;rw [Hy.out] at cb;have l2:=qk cb;obtain ⟨w8,rf,X8,b8,z8⟩:=lE w7 y w7.heap.size rfl;have fM:=hide X8;have GR:=hide (sE.out.below b8)
    obtain ⟨x0,x1,x2⟩:=GR.out.at
    obtain ⟨y0,y1,y2⟩:=X8.at
    have l3:=qk (⟨x0,x1,x2⟩:iP w8 ⟨w6.heap.size,0,none⟩ x);have l4:=qk (⟨y0,y1,y2⟩:iP w8 ⟨w7.heap.size,0,none⟩ y);have ia:=wTr dH b8
    have gl:Hid (k < A.length):=by rw [oP.out];exact ak
    have gL:Hid (k < B.length):=by rw [oN.out];exact hm
    have pW:¬ (m:Int) <= (k:Int):=by omega
    clear X8 cb b7 b8 z7 z8 x0 x1 x2 y0 y1 y2;have MY:Hid (de x y=0 -> A.take (k+1)=B.take (k+1)):=fun h=>zd2 xI sn0 HO.out.1.1 gl.out gL.out (by rw [Hx.out,Hy.out];exact h)
    have DT:Hid (¬ de x y=0 -> lex de A B=de x y):=fun h=>by
     have:=zcL xI sn0 HO.out.1.1 gl.out gL.out (by rw [Hx.out,Hy.out];exact h);rw [Hx.out,Hy.out] at this;exact this
    go_wp2_with fail;refine (vU x y _).mono ?_;rintro e w9 ⟨rfl,b9⟩;have ix:=wTr ia b9;clear b9 l1 l2 l3 l4 a8 rf;by_cases h0:de x y=0
    ·have HN:=hide (MY.out h0);rw [h0];clear h0;go_wp2_with fail;go_roundw
     case rel=>exact ⟨k+1,by omega,by go_num,⟨HN.out,by omega⟩,ix.out⟩
     case measure=>simp [intOf];omega
    ·have HN:=hide (DT.out h0)
     have mF:(de x y != 0)=true:=by simpa using h0
     clear h0;obtain ⟨z,hz⟩:∃ z,de x y=z:=⟨_,rfl⟩;rw [hz] at mF HN ⊢;clear hz;go_wp2_with fail;go_ret;exact ⟨zH HN.out.symm,ix.out⟩
   ·have pW:(m:Int) <= (k:Int):=by omega
    have HN:=hide (zcJ xI HO.out.1.1 (by rw [oP.out];exact ak) (by rw [oN.out];omega));clear b7 z7;go_wp2_with fail;go_ret;exact ⟨zH HN.out.symm,dH.out⟩
  ·obtain rfl:k=n:=by omega
   by_cases hm:k < m
   ·have pW:(k:Int) < (m:Int):=by omega
    have HN:=hide (zcK xI HO.out.1.1 oP.out (by rw [oN.out];exact hm));go_wp2_with fail;go_ret;exact ⟨zH HN.out.symm,HO.out.2⟩
   ·have pW:¬ (k:Int) < (m:Int):=by omega
    have HN:=hide (zcI xI HO.out.1.1 oP.out (by rw [oN.out];omega));go_wp2_with fail;go_ret;exact ⟨zH HN.out.symm,HO.out.2⟩
end
section

end
section
open Go.RowKit
attribute [local go_sem ↓] zq zp
attribute [local go_sem] zE zi qm zj qJ
def aZ (w w':World) (e:Ending) (P:Int -> Prop):Prop:=∃ k,e = .returned (.int .i64 k)/\P k/\Below w.heap.size w w'
def iu (P Q:Pst) (z:Int):Prop:=∃ X Y,af (ae P) X/\af (ae Q) Y/\z=eZ X Y
theorem iu.unique {P Q:Pst} {z z':Int} (h:iu P Q z) (h':iu P Q z'):z=z':=by
 obtain ⟨X,Y,hX,hY,rfl⟩:=h;obtain ⟨X',Y',L1,MB,rfl⟩:=h';rw [hX.unique L1 (fun _ _ _=>Iff.rfl),hY.unique MB (fun _ _ _=>Iff.rfl)]
def PhE (a b:Pv) (_:World) (_:World):Nat -> Value -> World -> Prop
 | 0,x,_=>x=PV a
 | 2,x,_=>x=PV b
 | _,_,_=>True
theorem kd (a b:Pv) (w:World) (W0:World):o7 (PhE a b w W0):=fun i _ _ _ h _=>match i with
 | 0=>h
 | 2=>h
 | 1=>trivial
 | 3=>trivial
 | 4=>trivial
 | 5=>trivial
 | 6=>trivial
 | 7=>trivial
 | _+8=>trivial
theorem zfA (a b:Pv) (w:World) (W0:World):∀ j x U U',j ∉ [] -> PhE a b w W0 j x U -> PhE a b w W0 j x U':=fun j _ _ _ _ h=>match j with
 | 0=>h
 | 2=>h
 | 1=>trivial
 | 3=>trivial
 | 4=>trivial
 | 5=>trivial
 | 6=>trivial
 | 7=>trivial
 | _+8=>trivial
theorem stE {a b:Pv} {w wk:World} (eo:Hid (aA wk w.heap.size a)) (fk:Hid (aA wk (w.heap.size+1) b)) (HA:Hid (am wk a)) (HB:Hid (am wk b)) {Q:Exit -> Act -> World -> Prop} :
  ∀ (l:Array Bool) (x:Act) (W:World),(∃ v1x0 v1x1 v1x2 v1x3 v1x4 v1x5,x={ tmps:=#[PV a,PV b,ptr w.heap.size,ptr (w.heap.size+1),.int .i64 0,v1x4,v1x5,undef,v1x0,v1x1,v1x2,v1x3,undef,undef,undef,undef,undef,undef,undef,undef,undef,undef,undef,undef,undef],defers:=[] }/\BI 8 6 wk (PhE a b w wk) [] [(1,af (ae a.P)),(3,af (ae b.P))] [(4,6,1),(5,7,3)] l W [v1x0,v1x1,v1x2,v1x3,v1x4,v1x5,undef,undef]) -> ∀ i,i∈Region.ready .any #[⟨some 8,.load 26 (.tmp 2),26, "sets.go:53",#[],none⟩,⟨some 9,.call ⟨.value (.func 204),#[.tmp 8],#[26]⟩,26, "sets.go:53",#[⟨0,.data⟩],none⟩,⟨some 10,.load 26 (.tmp 3),26, "sets.go:53",#[],none⟩,⟨some 11,.call ⟨.value (.func 204),#[.tmp 10],#[26]⟩,26, "sets.go:53",#[⟨2,.data⟩,⟨1,.chain⟩],none⟩,⟨some 5,.alloc 26,0, "sets.go:53",#[],none⟩,⟨some 6,.alloc 26,0, "sets.go:53",#[],none⟩,⟨none,.store 26 (.tmp 5) (.tmp 9),0, "sets.go:53",#[⟨4,.data⟩,⟨1,.data⟩,⟨3,.chain⟩,⟨0,.phase⟩,⟨1,.phase⟩,⟨2,.textOnly .lateStores⟩,⟨3,.textOnly .lateStoresUnsure⟩,⟨4,.phase⟩,⟨5,.phase⟩],none⟩,⟨none,.store 26 (.tmp 6) (.tmp 11),0, "sets.go:53",#[⟨5,.data⟩,⟨3,.data⟩,⟨6,.chain⟩,⟨0,.phase⟩,⟨1,.phase⟩,⟨2,.phase⟩,⟨3,.phase⟩,⟨4,.phase⟩,⟨5,.phase⟩,⟨6,.phase⟩],none⟩] l -> wpOp Tryz.prog #[⟨some 8,.load 26 (.tmp 2),26, "sets.go:53",#[],none⟩,⟨some 9,.call ⟨.value (.func 204),#[.tmp 8],#[26]⟩,26, "sets.go:53",#[⟨0,.data⟩],none⟩,⟨some 10,.load 26 (.tmp 3),26, "sets.go:53",#[],none⟩,⟨some 11,.call ⟨.value (.func 204),#[.tmp 10],#[26]⟩,26, "sets.go:53",#[⟨2,.data⟩,⟨1,.chain⟩],none⟩,⟨some 5,.alloc 26,0, "sets.go:53",#[],none⟩,⟨some 6,.alloc 26,0, "sets.go:53",#[],none⟩,⟨none,.store 26 (.tmp 5) (.tmp 9),0, "sets.go:53",#[⟨4,.data⟩,⟨1,.data⟩,⟨3,.chain⟩,⟨0,.phase⟩,⟨1,.phase⟩,⟨2,.textOnly .lateStores⟩,⟨3,.textOnly .lateStoresUnsure⟩,⟨4,.phase⟩,⟨5,.phase⟩],none⟩,⟨none,.store 26 (.tmp 6) (.tmp 11),0, "sets.go:53",#[⟨5,.data⟩,⟨3,.data⟩,⟨6,.chain⟩,⟨0,.phase⟩,⟨1,.phase⟩,⟨2,.phase⟩,⟨3,.phase⟩,⟨4,.phase⟩,⟨5,.phase⟩,⟨6,.phase⟩],none⟩] Q i (fun a' w'=>∃ v1x0 v1x1 v1x2 v1x3 v1x4 v1x5,a'={ tmps:=#[PV a,PV b,ptr w.heap.size,ptr (w.heap.size+1),.int .i64 0,v1x4,v1x5,undef,v1x0,v1x1,v1x2,v1x3,undef,undef,undef,undef,undef,undef,undef,undef,undef,undef,undef,undef,undef],defers:=[] }/\BI 8 6 wk (PhE a b w wk) [] [(1,af (ae a.P)),(3,af (ae b.P))] [(4,6,1),(5,7,3)] (l.setIfInBounds i true) w' [v1x0,v1x1,v1x2,v1x3,v1x4,v1x5,undef,undef]) x W:=by
 rintro l x W ⟨v1x0,v1x1,v1x2,v1x3,v1x4,v1x5,rfl,T⟩ i hi;obtain ⟨cv,cC,aH⟩:=qS hi;have aU:=jO cC
 have hc:i=0∨i=1∨i=2∨i=3∨i=4∨i=5∨i=6∨i=7:=by have h:i < 8:=cv;omega
 have HT:=hide T;clear T;rcases hc with rfl | rfl | rfl | rfl | rfl | rfl | rfl | rfl
 ·have HL:=hide aU;clear hi cv cC aH aU
  have l1:=zl (eo.out.below HT.out.b).at
  refine wpOp_step (o:=⟨some 8,.load 26 (.tmp 2),26, "sets.go:53",#[],none⟩) rfl (fun K hK=>?_);go_simp;exact hK _ _ ⟨PV a,v1x1,v1x2,v1x3,v1x4,v1x5,rfl,HT.out.plain (kd a b w wk) (Below.refl _ _) 0 (by decide) HL.out _ rfl (by simp) (by simp) (by decide)⟩
 ·have d0:=aH _ rfl { on:=0,ground:=Ground.data } (by simp) rfl;have e0:v1x0=PV a:=HT.out.h 0 (by decide) d0 (fun hm=>absurd hm (by decide));subst e0;have HL:=hide aU;clear hi cv cC aH aU d0;refine wpOp_step (o:=⟨some 9,.call ⟨.value (.func 204),#[.tmp 8],#[26]⟩,26, "sets.go:53",#[⟨0,.data⟩],none⟩) rfl (fun K hK=>?_);go_simp;go_wp2_with fail;refine (yU a _ (HA.out.below HT.out.b)).mono ?_;rintro e w' ⟨pp,rfl,pS,pN,pb,pq⟩;exact hK _ _ ⟨_,PV pp,v1x2,v1x3,v1x4,v1x5,rfl,HT.out.callF (kd a b w wk) pb 1 (af (ae a.P)) (by decide) HL.out (by simp) (by simp) pp pS (fun g h1 h2=>pN.elim (fun e=>by rw [e];exact dA.old HA.out h1) (fun h=>dA.new h h2)) (pq) (fun _ _=>trivial) (by simp) (by decide)⟩
 ·have HL:=hide aU;clear hi cv cC aH aU
  have l1:=zl (fk.out.below HT.out.b).at
  refine wpOp_step (o:=⟨some 10,.load 26 (.tmp 3),26, "sets.go:53",#[],none⟩) rfl (fun K hK=>?_);go_simp;exact hK _ _ ⟨v1x0,v1x1,PV b,v1x3,v1x4,v1x5,rfl,HT.out.plain (kd a b w wk) (Below.refl _ _) 2 (by decide) HL.out _ rfl (by simp) (by simp) (by decide)⟩
 ·have d2:=aH _ rfl { on:=2,ground:=Ground.data } (by simp) rfl;have e2:v1x2=PV b:=HT.out.h 2 (by decide) d2 (fun hm=>absurd hm (by decide));subst e2;have HL:=hide aU;clear hi cv cC aH aU d2;refine wpOp_step (o:=⟨some 11,.call ⟨.value (.func 204),#[.tmp 10],#[26]⟩,26, "sets.go:53",#[⟨2,.data⟩,⟨1,.chain⟩],none⟩) rfl (fun K hK=>?_);go_simp;go_wp2_with fail;refine (yU b _ (HB.out.below HT.out.b)).mono ?_;rintro e w' ⟨pp,rfl,pS,pN,pb,pq⟩;exact hK _ _ ⟨v1x0,v1x1,_,PV pp,v1x4,v1x5,rfl,HT.out.callF (kd a b w wk) pb 3 (af (ae b.P)) (by decide) HL.out (by simp) (by simp) pp pS (fun g h1 h2=>pN.elim (fun e=>by rw [e];exact dA.old HB.out h1) (fun h=>dA.new h h2)) (pq) (fun _ _=>trivial) (by simp) (by decide)⟩
 ·have HL:=hide aU;clear hi cv cC aH aU;refine wpOp_step (o:=⟨some 5,.alloc 26,0, "sets.go:53",#[],none⟩) rfl (fun K hK=>?_);go_simp;exact hK _ _ ⟨v1x0,v1x1,v1x2,v1x3,ptr W.heap.size,v1x5,rfl,HT.out.make (kd a b w wk) 4 6 1 (by decide) HL.out (by simp) (by simp) (by simp) (by simp) (fun _ _=>trivial) (by decide)⟩
 ·have HL:=hide aU;clear hi cv cC aH aU;refine wpOp_step (o:=⟨some 6,.alloc 26,0, "sets.go:53",#[],none⟩) rfl (fun K hK=>?_);go_simp;exact hK _ _ ⟨v1x0,v1x1,v1x2,v1x3,v1x4,ptr W.heap.size,rfl,HT.out.make (kd a b w wk) 5 7 3 (by decide) HL.out (by simp) (by simp) (by simp) (by simp) (fun _ _=>trivial) (by decide)⟩
 ·have da:=aH _ rfl { on:=4,ground:=Ground.data } (by simp) rfl;have dc:=aH _ rfl { on:=1,ground:=Ground.data } (by simp) rfl;obtain ⟨pc,ec,-,-,-⟩:=HT.out.r (1,af (ae a.P)) (by simp) dc;obtain ⟨g,eg,PB,T2⟩:=HT.out.fill 4 6 1 pc (by decide) aU (by simp) (by simp) (by simp) da dc (Or.inl rfl) ec (by simp) (by simp) (zfA a b w wk) (fun _ _=>trivial) undef;have fg:v1x4=ptr g:=eg;have fc:v1x1=PV pc:=ec;subst fg fc;have s1:=qQ (p':=pc) PB;have nl:=hide T2;clear T2 PB eg ec da dc HT hi cv cC aH aU;refine wpOp_step (o:=⟨none,.store 26 (.tmp 5) (.tmp 9),0, "sets.go:53",#[⟨4,.data⟩,⟨1,.data⟩,⟨3,.chain⟩,⟨0,.phase⟩,⟨1,.phase⟩,⟨2,.textOnly .lateStores⟩,⟨3,.textOnly .lateStoresUnsure⟩,⟨4,.phase⟩,⟨5,.phase⟩],none⟩) rfl (fun K hK=>?_);go_simp;exact hK _ _ ⟨v1x0,_,v1x2,v1x3,_,v1x5,rfl,nl.out⟩
 ·have da:=aH _ rfl { on:=5,ground:=Ground.data } (by simp) rfl;have dc:=aH _ rfl { on:=3,ground:=Ground.data } (by simp) rfl;have dt:=aH _ rfl { on:=6,ground:=Ground.chain } (by simp) rfl;obtain ⟨pc,ec,-,-,-⟩:=HT.out.r (3,af (ae b.P)) (by simp) dc;obtain ⟨g,eg,PB,T2⟩:=HT.out.fill 5 7 3 pc (by decide) aU (by simp) (by simp) (by simp) da dc (Or.inr dt) ec (by simp) (by simp) (zfA a b w wk) (fun _ _=>trivial) undef;have fg:v1x5=ptr g:=eg;have fc:v1x3=PV pc:=ec;subst fg fc;have s1:=qQ (p':=pc) PB;have nl:=hide T2;clear T2 PB eg ec da dc dt HT hi cv cC aH aU;refine wpOp_step (o:=⟨none,.store 26 (.tmp 6) (.tmp 11),0, "sets.go:53",#[⟨5,.data⟩,⟨3,.data⟩,⟨6,.chain⟩,⟨0,.phase⟩,⟨1,.phase⟩,⟨2,.phase⟩,⟨3,.phase⟩,⟨4,.phase⟩,⟨5,.phase⟩,⟨6,.phase⟩],none⟩) rfl (fun K hK=>?_);go_simp;exact hK _ _ ⟨v1x0,v1x1,v1x2,_,v1x4,_,rfl,nl.out⟩
theorem wY (a b:Pv) (w:World) (hA:am w a) (hB:am w b):Calls Tryz.prog 164 #[PV a,PV b] w fun e w'=>aZ w w' e (iu a.P b.P):=by
 have b1:=ze w (.cells (PC a) 26);have b2:=ze (w.alloc (.cells (PC a) 26)) (.cells (PC b) 26);have p2:=zr (w.alloc (.cells (PC a) 26)) b;rw [World.size_alloc] at p2;have eo:=hide ((zr w a).below b2);have fk:=hide p2;have iK:=hide (b1.trans (b2.mono b1.size));have HA:=hide (hA.below iK.out);have HB:=hide (hB.below iK.out);clear b1 b2 p2 hA hB;obtain ⟨wk,aY⟩:∃ wk,(w.alloc (.cells (PC a) 26)).alloc (.cells (PC b) 26)=wk:=⟨_,rfl⟩;rw [aY] at eo fk iK HA HB;go_enter Tryz.func164,Tryz.ntmps164;go_wp2_with fail;clear aY;refine qq (by kernel_rfl) (fun l x W=>∃ v1x0 v1x1 v1x2 v1x3 v1x4 v1x5,x={ tmps:=#[PV a,PV b,ptr w.heap.size,ptr (w.heap.size+1),.int .i64 0,v1x4,v1x5,undef,v1x0,v1x1,v1x2,v1x3,undef,undef,undef,undef,undef,undef,undef,undef,undef,undef,undef,undef,undef],defers:=[] }/\BI 8 6 wk (PhE a b w wk) [] [(1,af (ae a.P)),(3,af (ae b.P))] [(4,6,1),(5,7,3)] l W [v1x0,v1x1,v1x2,v1x3,v1x4,v1x5,undef,undef]) ⟨undef,undef,undef,undef,undef,undef,rfl,BI.start _ _ _ _ _ _ _ _ rfl⟩ ?_ ?_ ?_
 ·rintro l x W ⟨v1x0,v1x1,v1x2,v1x3,v1x4,v1x5,rfl,T⟩;exact T.sz
 ·exact stE eo fk HA HB
 ·rintro l x W ⟨v1x0,v1x1,v1x2,v1x3,v1x4,v1x5,rfl,T⟩ ei;have aR:=fun i (hi:i < 8)=>q8 (by kernel_rfl) T.sz ei i hi;have HT:=hide T;clear T ei;have e0:v1x0=PV a:=HT.out.h 0 (by decide) (aR 0 (by decide)) (fun hm=>absurd hm (by decide));subst e0;obtain ⟨qa,e1,Sqa,qqa,-⟩:=HT.out.r (1,af (ae a.P)) (by simp) (aR 1 (by decide));have f1:v1x1=PV qa:=e1;subst f1;have Ao:=hide Sqa;have If:Hid (af (ae a.P) qa.P):=qqa;clear e1 Sqa qqa;have e2:v1x2=PV b:=HT.out.h 2 (by decide) (aR 2 (by decide)) (fun hm=>absurd hm (by decide));subst e2;obtain ⟨qb,e3,Sqb,qqb,-⟩:=HT.out.r (3,af (ae b.P)) (by simp) (aR 3 (by decide));have f3:v1x3=PV qb:=e3;subst f3;have AT:=hide Sqb;have Iv:Hid (af (ae b.P) qb.P):=qqb;clear e3 Sqb qqb;obtain ⟨ga,e4,-,-,-,k4⟩:=HT.out.a (4,6,1) (by simp) (aR 4 (by decide))
  have GQ:Hid (aA W ga qa):=k4 (aR 6 (by decide)) qa rfl;have f4:v1x4=ptr ga:=e4;subst f4;clear e4 k4;obtain ⟨gb,e5,-,-,-,k5⟩:=HT.out.a (5,7,3) (by simp) (aR 5 (by decide));have IS:Hid (aA W gb qb):=k5 (aR 7 (by decide)) qb rfl;have f5:v1x5=ptr gb:=e5;subst f5;clear e5 k5;have by1:=HT.out.b
  rename World=>y1
  clear aR HT l;replace eo:=hide (eo.out.below by1);replace fk:=hide (fk.out.below by1);replace HA:=hide (HA.out.below by1);replace HB:=hide (HB.out.below by1);have pG:=wTr iK by1;clear by1;obtain ⟨va,ca⟩:=GQ.out.nums;obtain ⟨vb,cb⟩:=IS.out.nums;have HC:Hid (iu a.P b.P (eZ qa.P qb.P)):=⟨qa.P,qb.P,If.out,Iv.out,rfl⟩;go_wp2_with fail;refine (bz _ _ _ _ _ _ qa.P.vec qb.P.vec _ Ao.out.vec AT.out.vec Ao.out.big AT.out.big).mono ?_;rintro e z1 ⟨rfl,bz1⟩;have ca':=(bz1.cell (World.block_lt_of_cell? _ _ ca)).trans ca;have cb':=(bz1.cell (World.block_lt_of_cell? _ _ cb)).trans cb;have uk:=wTr pG bz1;have D4:=hide (Ao.out.below bz1).cloud;have Ei:=hide (AT.out.below bz1).cloud;clear va vb ca cb bz1;by_cases h0:lex au qa.P.vec qb.P.vec=0
  ·have HE:Hid (eZ qa.P qb.P=lex de qa.P.cloud qb.P.cloud):=by show _=_;unfold eZ;rw [if_pos h0]
   rw [h0];clear h0;go_wp2_with fail;refine (yB _ _ _ _ _ _ qa.P.cloud qb.P.cloud _ D4.out Ei.out).mono ?_;rintro e z2 ⟨rfl,bz2⟩;have eQ:=wTr uk bz2;rw [<- HE.out];generalize eZ qa.P qb.P=z at HC ⊢;clear HE bz2 ca' cb';go_wp2_with fail;go_ret;exact ⟨z,rfl,HC.out,eQ.out⟩
  ·have HE:Hid (eZ qa.P qb.P=lex au qa.P.vec qb.P.vec):=by show _=_;unfold eZ;rw [if_neg h0]
   rw [<- HE.out] at h0 ⊢;generalize eZ qa.P qb.P=z at HC h0 ⊢
   have mF:(z != 0)=true:=by simpa using h0
   clear HE h0;go_wp2_with fail;go_ret;exact ⟨z,rfl,HC.out,uk.out⟩
end
end Go.Proofs.YtjffpimfngdggaaGreat
namespace Go.Proofs
open Go.Shelf
def Tryz.lays106_ren:Go.Shelf.Ren:=⟨fun | 106=>163 | 213=>203 | 265=>233 | n=>n,fun | 9=>9 | 3=>3 | n=>n,fun | n=>n⟩
theorem Tryz.lays106:Go.Proofs.Lays.n106 Tryz.prog Tryz.lays106_ren:={
 mixed:=by kernel_rfl
 f106:=Tryz.func163.trans (congrArg some (by kernel_rfl))
 f213:=Tryz.func203.trans (congrArg some (by kernel_rfl))
 f265:=Tryz.func233.trans (congrArg some (by kernel_rfl))
 t3:=Tryz.underlying3
 a3:=Tryz.isAgg3
 z3:=Tryz.sizeOf3
 v3:=Tryz.zeroValue3
 t9:=Tryz.underlying9
 a9:=Tryz.isAgg9
 z9:=Tryz.sizeOf9
 v9:=Tryz.zeroValue9 }
theorem Tryz.strings_Compare (a b:ByteArray) (w:World) :
  Calls Tryz.prog 163 #[.string a,.string b] w fun e w'=>e = .returned (.int .i64 (Lib.compareBytes a.data.toList b.data.toList))/\w'=w:=Any.strings_Compare Tryz.lays106 a b w
end Go.Proofs
