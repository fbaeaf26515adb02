/- PSm PNa PNo VKc -/
import Derived.Test.YtjffpimfngdggaaGreatTk
import Derived.Test.YtjffpimfngdggaaGreatFe06
import Derived.Laws.StructEq
import Derived.Test.YtjffpimfngdggaaGreatFe03
import Derived.Test.YtjffpimfngdggaaGreatFe00
set_option maxRecDepth 100000
set_option maxHeartbeats 4000000
namespace Go.Proofs.YtjffpimfngdggaaGreat
section
open Go.RowKit
attribute [local go_sem ↓] zq zp xT
attribute [local go_sem] zE zi qm zj
def eqS (x y:Sn):Bool:=x.rep == y.rep && x.lo == y.lo && x.hi == y.hi
theorem kp (x y:Sn):eqS x y=true↔x=y:=by
 obtain ⟨a,b,c⟩:=x;obtain ⟨a',b',c'⟩:=y;simp [eqS,and_assoc]
theorem zbK (x y:Sn) (w:World):(Op.equalIn 10000 104 (.agg (SC x)) (.agg (SC y))).run Tryz.prog w = .ok (eqS x y) w:=by
 have u3:=Tryz.underlying3;have a3:=Tryz.isAgg3;have z3:=Tryz.sizeOf3
 have hS:Tryz.prog.underlying 104=some (.struct (Tryz.prog.fieldsOf 104)):=by kernel_rfl
 have hp:Tryz.prog.stoodInHeld 104=false:=by kernel_rfl
 obtain ⟨a,b,c⟩:=x;obtain ⟨a',b',c'⟩:=y
 show (Op.equalIn 10000 104 (.agg #[.int .i64 a,.int .i64 b,.int .i64 c]) (.agg #[.int .i64 a',.int .i64 b',.int .i64 c'])).run Tryz.prog w = .ok (a == a' && b == b' && c == c') w
 rw [show (10000:Nat)=9999+1 from rfl,run_equalIn_struct w 9999 104 _ _ hS hp];simp only [Program.fieldsOf,Tryz.underlying104];have h3:∀ (p q:Int) w,(Op.equalIn 9999 3 (.int .i64 p) (.int .i64 q)).run Tryz.prog w = .ok (p == q) w:=fun p q w=>run_equalIn_int w 9998 3 .i64 .i64 p q Tryz.underlying3;obtain ⟨D,hD⟩:∃ D,9999=D:=⟨9999,rfl⟩;rw [hD] at h3 ⊢;go_simp;by_cases e1:a=a'
 ·by_cases e2:b=b'
  ·by_cases e3:c=c'
   ·simp [e1,e2,e3]
   ·simp [e1,e2,e3]
  ·simp [e1,e2]
 ·simp [e1]
attribute [local go_sem ↓] zbK
theorem jZ (l:List Sn) (k:Nat) (h:k < l.length):l.take (k+1)=l.take k++[l.getD k sn0]:=by
 rw [List.take_succ_eq_append_getElem h];simp [List.getD,h]
theorem j0 (l:List Int) (k:Nat) (h:k < l.length):l.take (k+1)=l.take k++[l.getD k 0]:=by
 rw [List.take_succ_eq_append_getElem h];simp [List.getD,h]
def df (w w':World) (e:Ending) (P:Prop):Prop:=∃ x,e = .returned (.bool x)/\(x=true↔P)/\Below w.heap.size w w'
theorem vu {w:World} {ao:Option Addr} {n c:Nat} {Z:List Int} (S:V.Src w ao n c Z) (k:Nat) (h:k < n):∃ ad,ao=some ad/\w.cell? (ad.add k)=some (.int .i64 (Z.getD k 0)):=by
 cases ao with
 | none=>have:=S.2.1 rfl;omega
 | some ad=>exact ⟨ad,rfl,S.2.2 ad rfl k h⟩

theorem xy (a b:Pv) (w:World) (hA:am w a) (hB:am w b) :
  Calls Tryz.prog 29 #[PV a,PV b] w fun e w'=>df w w' e (a.P=b.P):=by
 have b1:=ze w (.cells (PC a) 26);have b2:=ze (w.alloc (.cells (PC a) 26)) (.cells (PC b) 26);have p2:=zr (w.alloc (.cells (PC a) 26)) b;rw [World.size_alloc] at p2;have lz:=hide ((zr w a).below b2);have iJ:=hide p2;have aq:=hide (b1.trans (b2.mono b1.size));have iI:=hide (hA.below aq.out);have gf:=hide (hB.below aq.out);obtain ⟨wk,aY⟩:∃ wk,(w.alloc (.cells (PC a) 26)).alloc (.cells (PC b) 26)=wk:=⟨_,rfl⟩;rw [aY] at lz iJ aq iI gf;obtain ⟨a0,a1⟩:=lz.out.nums;obtain ⟨c0,c1⟩:=iJ.out.nums;have IX:=hide iI.out.vec;have GT:=hide gf.out.vec;have D4:=hide iI.out.cloud;have Gq:=hide gf.out.cloud;have g1:=hA.big;have g2:=hA.cloud.big;have g3:=hB.big;have g4:=hB.cloud.big;clear b1 b2 p2 hA hB iI gf;obtain ⟨avo,avn,avc,aco,acn,acc,aP⟩:=a;obtain ⟨bvo,bvn,bvc,bco,bcn,bcc,bP⟩:=b
 dsimp only at a0 a1 c0 c1 IX GT D4 Gq g1 g2 g3 g4 ⊢;have oP:Hid (aP.vec.length=avn):=IX.out.1;have oN:Hid (bP.vec.length=bvn):=GT.out.1;have gv:=hide D4.out.len;have gP:=hide Gq.out.len;by_cases hv:avn=bvn
 ·by_cases hc:acn=bcn
  ·subst hv hc;go_enter Tryz.func29,Tryz.ntmps29;go_wp2_with fail;clear aY;go_loopw [5] (fun i wr=>∃ k:Nat,k <= avn/\i = .int .i64 k/\Hid (aP.vec.take k=bP.vec.take k)/\Hid (Below wk.heap.size wk wr)) (fun i _=>avn - (intOf i).toNat)
   case atStart=>exact ⟨0,Nat.zero_le _,rfl,rfl,Below.refl _ _⟩
   case round =>
    obtain ⟨k,hk,rfl,HT,HB⟩:=hrel
    rename World=>w6
    have a0':=(HB.out.cell (World.block_lt_of_cell? _ _ a0)).trans a0;have c0':=(HB.out.cell (World.block_lt_of_cell? _ _ c0)).trans c0;by_cases ak:k < avn
    ·obtain ⟨ad,rfl,q1⟩:=vu (IX.out.below HB.out) k ak;obtain ⟨bd,rfl,q2⟩:=vu (GT.out.below HB.out) k ak;have t1:=hide (j0 aP.vec k (by rw [oP.out];exact ak));have t2:=hide (j0 bP.vec k (by rw [oN.out];exact ak));obtain ⟨x,Hx⟩:∃ x,Hid (aP.vec.getD k 0=x):=⟨_,rfl⟩;obtain ⟨y,Hy⟩:∃ y,Hid (bP.vec.getD k 0=y):=⟨_,rfl⟩;rw [Hx.out] at q1 t1;rw [Hy.out] at q2 t2;have r1:=cell_regrown a0';have r2:=cell_regrown c0';have r3:=cell_regrown q1;have r4:=cell_regrown q2;clear q1 q2;by_cases he:x=y
     ·have HE:=hide he
      have DD:(x != y)=false:=by simp [he]
      clear he;go_wp2_with fail;refine wp_region_quiet_below (by kernel_rfl) (by kernel_rfl) ?_
      repeat (with_reducible (refine wpQuiet_step ?_);intro K hK;go_simp;(try rw [if_neg (by unfold undef;simp)]);first | (with_reducible (refine hK _ ?_);clear hK K) | (apply Exists.intro;refine ⟨fun _=>?_,hK _ ?_⟩;(fail);clear hK K))
      with_reducible (refine wpQuiet_nil ?_)
      intro w7 hw';obtain ⟨⟨dq,osq⟩,hw''⟩:=hw'
      have b7:Below w6.heap.size w6 w7:=by rw [hw''];exact below_regrown w6 dq osq
      have dH:=wTr HB b7;clear hw'' dq osq b7;clear r1 r2 r3 r4;go_wp2_with fail;go_roundw
      case rel=>exact ⟨k+1,by omega,by go_num,by show _=_;rw [t1.out,t2.out,HT.out,HE.out],dH.out⟩
      case measure=>simp [intOf];omega
     ·have DD:(x != y)=true:=by simp [he]
      have dT:Hid (¬ aP=bP):=fun h=>he (by rw [<- Hx.out,<- Hy.out,h]);clear he;go_wp2_with fail;refine wp_region_quiet_below (by kernel_rfl) (by kernel_rfl) ?_
      repeat (with_reducible (refine wpQuiet_step ?_);intro K hK;go_simp;(try rw [if_neg (by unfold undef;simp)]);first | (with_reducible (refine hK _ ?_);clear hK K) | (apply Exists.intro;refine ⟨fun _=>?_,hK _ ?_⟩;(fail);clear hK K))
      with_reducible (refine wpQuiet_nil ?_)
      intro w7 hw';obtain ⟨⟨dq,osq⟩,hw''⟩:=hw'
      have b7:Below w6.heap.size w6 w7:=by rw [hw''];exact below_regrown w6 dq osq
      have dH:=wTr HB b7;clear hw'' dq osq b7;clear r1 r2 r3 r4;have eQ:=wTr aq dH.out;go_wp2_with fail;go_ret;exact ⟨false,rfl,⟨(fun h=>by cases h),fun h=>absurd h dT.out⟩,eQ.out⟩
    ·obtain rfl:k=avn:=by omega
     have iw:Hid (aP.vec=bP.vec):=by
      show _=_
      have h:=HT.out;rw [List.take_of_length_le (by rw [oP.out];exact Nat.le_refl _),List.take_of_length_le (by rw [oN.out];exact Nat.le_refl _)] at h;exact h
     go_wp2_with fail;go_loopw [6] (fun i wr=>∃ k:Nat,k <= acn/\i = .int .i64 k/\Hid (aP.cloud.take k=bP.cloud.take k)/\Hid (Below wk.heap.size wk wr)) (fun i _=>acn - (intOf i).toNat)
     case atStart=>exact ⟨0,Nat.zero_le _,rfl,rfl,HB.out⟩
     case round =>
      obtain ⟨j,hj,rfl,HT,HB⟩:=hrel
      rename World=>w6
      have a1':=(HB.out.cell (World.block_lt_of_cell? _ _ a1)).trans a1;have c1':=(HB.out.cell (World.block_lt_of_cell? _ _ c1)).trans c1;by_cases ak:j < acn
      ·obtain ⟨ad,rfl,q1⟩:=(D4.out.below HB.out).at j ak;obtain ⟨bd,rfl,q2⟩:=(Gq.out.below HB.out).at j ak;have t1:=hide (jZ aP.cloud j (by rw [gv.out];exact ak));have t2:=hide (jZ bP.cloud j (by rw [gP.out];exact ak));obtain ⟨x,Hx⟩:∃ x,Hid (aP.cloud.getD j sn0=x):=⟨_,rfl⟩;obtain ⟨y,Hy⟩:∃ y,Hid (bP.cloud.getD j sn0=y):=⟨_,rfl⟩;rw [Hx.out] at q1 t1;rw [Hy.out] at q2 t2;have r1:=cell_regrown a1';have r2:=cell_regrown c1';have r3:∀ d os,(ldS (.pointer (some (ad.add (j * 3))))).run Tryz.prog (Sort.grow (redrawn w6 d) os) = .ok (SV x) (Sort.grow (redrawn w6 d) os):=fun d os=>qk (q1.on (below_regrown w6 d os));have r4:∀ d os,(ldS (.pointer (some (bd.add (j * 3))))).run Tryz.prog (Sort.grow (redrawn w6 d) os) = .ok (SV y) (Sort.grow (redrawn w6 d) os):=fun d os=>qk (q2.on (below_regrown w6 d os));clear q1 q2
       obtain ⟨z,hz⟩:∃ z,eqS x y=z:=⟨_,rfl⟩
       have HZ:Hid (z=true↔x=y):=by rw [<- hz];exact kp x y
       cases z with
       | true =>
        have m4:=hide (HZ.out.1 rfl);clear HZ;go_wp2_with fail;refine wp_region_quiet_below (by kernel_rfl) (by kernel_rfl) ?_
        repeat (with_reducible (refine wpQuiet_step ?_);intro K hK;go_simp;(try rw [if_neg (by unfold undef;simp)]);first | (with_reducible (refine hK _ ?_);clear hK K) | (apply Exists.intro;refine ⟨fun _=>?_,hK _ ?_⟩;(fail);clear hK K))
        with_reducible (refine wpQuiet_nil ?_)
        intro w7 hw';obtain ⟨⟨dq,osq⟩,hw''⟩:=hw'
        have b7:Below w6.heap.size w6 w7:=by rw [hw''];exact below_regrown w6 dq osq
        have dH:=wTr HB b7;clear hw'' dq osq b7;clear r1 r2 r3 r4;go_wp2_with fail;go_roundw
        case rel=>exact ⟨j+1,by omega,by go_num,by show _=_;rw [t1.out,t2.out,HT.out,m4.out],dH.out⟩
        case measure=>simp [intOf];omega
       | false =>
        have dT:Hid (¬ aP=bP):=fun h=>by
         have:=HZ.out.2 (by rw [<- Hx.out,<- Hy.out,h])
         cases this
        go_wp2_with fail;refine wp_region_quiet_below (by kernel_rfl) (by kernel_rfl) ?_
        repeat (with_reducible (refine wpQuiet_step ?_);intro K hK;go_simp;(try rw [if_neg (by unfold undef;simp)]);first | (with_reducible (refine hK _ ?_);clear hK K) | (apply Exists.intro;refine ⟨fun _=>?_,hK _ ?_⟩;(fail);clear hK K))
        with_reducible (refine wpQuiet_nil ?_)
        intro w7 hw';obtain ⟨⟨dq,osq⟩,hw''⟩:=hw'
        have b7:Below w6.heap.size w6 w7:=by rw [hw''];exact below_regrown w6 dq osq
        have dH:=wTr HB b7;clear hw'' dq osq b7;clear r1 r2 r3 r4;have eQ:=wTr aq dH.out;go_wp2_with fail;go_ret;exact ⟨false,rfl,⟨(fun h=>by cases h),fun h=>absurd h dT.out⟩,eQ.out⟩
      ·obtain rfl:j=acn:=by omega
       have Ms:Hid (aP.cloud=bP.cloud):=by
        show _=_
        have h:=HT.out;rw [List.take_of_length_le (by rw [gv.out];exact Nat.le_refl _),List.take_of_length_le (by rw [gP.out];exact Nat.le_refl _)] at h;exact h
       have eQ:=wTr aq HB.out;go_wp2_with fail;go_ret;exact ⟨true,rfl,⟨fun _=>by obtain ⟨v1,c1⟩:=aP;obtain ⟨v2,c2⟩:=bP;have e1:v1=v2:=iw.out;have e2:c1=c2:=Ms.out;rw [e1,e2],fun _=>rfl⟩,eQ.out⟩
  ·have d1:((avn:Int) != (bvn:Int))=false:=by simp [hv]
   have d2:((acn:Int) != (bcn:Int))=true:=by simp;omega
   have dT:Hid (¬ aP=bP):=fun h=>hc (by rw [<- gv.out,<- gP.out,h]);clear hv hc;go_enter Tryz.func29,Tryz.ntmps29;go_wp2_with fail;go_ret;exact ⟨false,rfl,⟨(fun h=>by cases h),fun h=>absurd h dT.out⟩,aq.out⟩
 ·have d1:((avn:Int) != (bvn:Int))=true:=by simp;omega
  have dT:Hid (¬ aP=bP):=fun h=>hv (by rw [<- oP.out,<- oN.out,h]);clear hv;go_enter Tryz.func29,Tryz.ntmps29;go_wp2_with fail;go_ret;exact ⟨false,rfl,⟨(fun h=>by cases h),fun h=>absurd h dT.out⟩,aq.out⟩
end
section
open Go.RowKit

structure gG (Z:List Int) (a c:Sn):Prop where
 isr:V.isR c.rep=true
 rep:a.rep <= c.rep
 lead:V.atI Z c.rep+2 <= c.lo
 gap:c.rep=a.rep -> a.hi+2 <= c.lo
 ord:c.lo <= c.hi
 top:c.hi <= 1000000000
def chain (Z:List Int):Sn -> List Sn -> Prop
 | _,[]=>True
 | a,c :: t=>gG Z a c/\chain Z c t
def cZ:Sn -> List Sn -> Sn
 | a,[]=>a
 | _,c :: t=>cZ c t
theorem vN (a:Sn) (L M:List Sn):cZ a (L++M)=cZ (cZ a L) M:=by
 induction L generalizing a with
 | nil=>rfl
 | cons c t ih=>exact ih c
theorem yR (a c:Sn) (L:List Sn):cZ a (L++[c])=c:=by rw [vN];rfl
theorem jU (Z:List Int) (a:Sn) (L M:List Sn):chain Z a (L++M)↔chain Z a L/\chain Z (cZ a L) M:=by
 induction L generalizing a with
 | nil=>simp [chain,cZ]
 | cons c t ih =>
  show gG Z a c/\chain Z c (t++M)↔(gG Z a c/\chain Z c t)/\chain Z (cZ c t) M
  rw [ih c,and_assoc]
theorem vH (Z:List Int) (a c:Sn) (L:List Sn):chain Z a (L++[c])↔chain Z a L/\gG Z (cZ a L) c:=by
 rw [jU];simp [chain]
end
section
open Go.RowKit

theorem zeQ {k:Nat} (h:k < 16):V.isR (k:Int)=true:=by simp [V.isR];omega
theorem zft (Z:List Int) {k:Nat} (h:k < 16):V.atI Z (k:Int)=V.at' Z k:=by unfold V.atI;rw [if_pos (zeQ h),Int.toNat_natCast]
theorem zbo (Z:List Int) (k:Nat) (hk:k < 16):∀ (L:List Rn) (a:Sn) (l:Int),a.rep <= (k:Int) -> V.at' Z k+2 <= l -> (a.rep=(k:Int) -> a.hi+2 <= l) -> form l L -> chain Z a (tag k L)
 | [],_,_,_,_,_,_=>trivial
 | r :: t,a,l,ha,hl,hg,h=>by
  have h1:=h.1;have h2:=h.2.1;have h3:=h.2.2.1;refine ⟨⟨zeQ hk,ha,?_,fun e=>?_,h2,h3⟩,zbo Z k hk t _ (r.hi+2) (Int.le_refl _) ?_ (fun _=>Int.le_refl _) h.2.2.2⟩
  ·show V.atI Z (k:Int)+2 <= r.lo
   rw [zft Z hk];omega
  ·have:=hg e.symm
   show a.hi+2 <= r.lo
   omega
  ·omega
theorem zcP (a:Sn) (k:Nat):∀ (L:List Rn),L=[]∨(cZ a (tag k L)).rep=(k:Int)
 | []=>Or.inl rfl
 | r :: t=>by
  right;rcases zcP ⟨(k:Int),r.lo,r.hi⟩ k t with h | h
  ·subst h;rfl
  ·exact h
theorem zeZ {X:List Rn} (h:form 1 X):form (ar X+2) (a7 X):=by
 cases X with
 | nil=>trivial
 | cons r t =>
  by_cases e:r.lo=1
  ·simp only [ar,a7,if_pos e];exact h.2.2.2
  ·simp only [ar,a7,if_neg e];have:=h.1;exact ⟨by omega,h.2⟩
theorem vP {N:Nat -> List Rn} {Z:List Int} (hN:∀ r,r < 16 -> form 1 (N r)) (hZ:∀ r,r < 16 -> V.at' Z r=ar (N r)):∀ k,k <= 16 -> chain Z sn0 (aJ N k)/\(aJ N k=[]∨(cZ sn0 (aJ N k)).rep < (k:Int))
 | 0,_=>⟨trivial,Or.inl rfl⟩
 | k+1,hk=>by
  obtain ⟨h1,h2⟩:=vP hN hZ k (by omega);have hb:=jP (hN k (by omega));rw [aJ,jU,vN];refine ⟨⟨h1,zbo Z k (by omega) _ _ (ar (N k)+2) ?_ (by rw [hZ k (by omega)];exact Int.le_refl _) (fun e=>?_) (zeZ (hN k (by omega)))⟩,?_⟩
  ·rcases h2 with h | h
   ·rw [h];show (0:Int) <= _;omega
   ·omega
  ·rcases h2 with h | h
   ·rw [h];show (0:Int)+2 <= _;omega
   ·omega
  ·rcases zcP (cZ sn0 (aJ N k)) k (a7 (N k)) with h | h
   ·rcases h2 with g | g
    ·left;rw [g,h];rfl
    ·right;rw [h];show (cZ sn0 (aJ N k)).rep < _;omega
   ·right;rw [h];omega
def ik (G:Nat -> List Rn):Nat -> List Sn
 | 0=>[]
 | k+1=>ik G k++tag k (G k)
theorem yY (N:Nat -> List Rn):∀ k,aJ N k=ik (fun r=>a7 (N r)) k
 | 0=>rfl
 | k+1=>by rw [aJ,ik,yY N k]
theorem kc {G G':Nat -> List Rn}:∀ k,(∀ r,r < k -> G r=G' r) -> ik G k=ik G' k
 | 0,_=>rfl
 | k+1,h=>by rw [ik,ik,kc k (fun r hr=>h r (by omega)),h k (by omega)]
theorem zbr (G:Nat -> List Rn) (q:Nat) (x:Rn) (hG:∀ r,q < r -> G r=[]):∀ k,ik (fun r=>if r=q then G r++[x] else G r) k=ik G k++(if q < k then [⟨(q:Int),x.lo,x.hi⟩] else [])
 | 0=>by simp [ik]
 | k+1=>by
  rw [ik,ik,zbr G q x hG k];by_cases h:k=q
  ·subst h;simp [tag]
  ·by_cases h':q < k
   ·simp [h,h',hG k h',show q < k+1 by omega,tag]
   ·simp [h,h',show ¬ q < k+1 by omega]
theorem zdB {acc:List Rn} {r:Rn} {l:Int} (h:form l acc) (hg:∀ i x,acc=i++[x] -> x.hi+2 <= r.lo) (h1:l <= r.lo) (h2:r.lo <= r.hi) (h3:r.hi <= 1000000000):form l (acc++[r]):=by
 rcases List.eq_nil_or_concat acc with e | ⟨i,x,e⟩
 ·subst e;exact ⟨h1,h2,h3,trivial⟩
 ·rw [List.concat_eq_append] at e;subst e;exact kR h (hg i x rfl) h2 h3
theorem zbp (Z:List Int):∀ (n:Nat) (L:List Sn),L.length=n -> chain Z sn0 L -> L=ik (ag L) 16/\(∀ r,r < 16 -> form (V.at' Z r+2) (ag L r))/\(∀ r:Nat,(cZ sn0 L).rep < (r:Int) -> ag L r=[])/\(∀ (q:Nat) i x,(q:Int)=(cZ sn0 L).rep -> ag L q=i++[x] -> x.hi=(cZ sn0 L).hi)
 | 0,L,hn,_=>by
  obtain rfl:=List.eq_nil_of_length_eq_zero hn
  have e:∀ r,ag [] r=[]:=fun r=>by simp [ag]
  refine ⟨?_,fun r _=>by rw [e];trivial,fun r _=>e r,fun q i x _ h=>by rw [e] at h;simp at h⟩;rw [kc (G':=fun _=>[]) 16 (fun r _=>e r)];rfl
 | n+1,L,hn,h=>by
  rcases List.eq_nil_or_concat L with e | ⟨M,c,e⟩
  ·subst e;simp at hn
  ·rw [List.concat_eq_append] at e;subst e;rw [vH] at h;obtain ⟨i1,i2,i3,i4⟩:=zbp Z n M (by simpa using hn) h.1;have S:=h.2
   obtain ⟨q,hq,Im⟩:∃ q:Nat,c.rep=(q:Int)/\q < 16:=by
    have:=S.isr;simp [V.isR] at this;exact ⟨c.rep.toNat,by omega,by omega⟩
   have hp:∀ r,ag (M++[c]) r=if r=q then ag M r++[⟨c.lo,c.hi⟩] else ag M r:=fun r=>by
    rw [jk];by_cases e:r=q
    ·subst e;simp [hq]
    ·have:¬ c.rep=(r:Int):=by rw [hq];omega
     simp [e,this]
   have pY:(cZ sn0 (M++[c]))=c:=yR _ _ _;refine ⟨?_,fun r hr=>?_,fun r hr=>?_,fun q' i x e1 e2=>?_⟩
   ·rw [kc (G':=fun r=>if r=q then ag M r++[⟨c.lo,c.hi⟩] else ag M r) 16 (fun r _=>hp r),zbr (ag M) q ⟨c.lo,c.hi⟩ (fun r hr=>i3 r (by have:=S.rep;omega)) 16,if_pos Im,<- i1]
    have hc:c=⟨(q:Int),c.lo,c.hi⟩:=by rw [<- hq]
    exact congrArg (fun x=>M++[x]) hc
   ·rw [hp r];by_cases e:r=q
    ·subst e;rw [if_pos rfl];refine zdB (i2 r hr) (fun i x hx=>?_) ?_ S.ord S.top
     ·by_cases e2:c.rep=(cZ sn0 M).rep
      ·have h1:=i4 r i x (by rw [<- e2,hq]) hx;have h2:=S.gap e2
       show x.hi+2 <= c.lo
       omega
      ·have:=i3 r (by have:=S.rep;omega);rw [this] at hx;simp at hx
     ·have:=S.lead;rw [hq,zft Z hr] at this;exact this
    ·rw [if_neg e];exact i2 r hr
   ·rw [pY,hq] at hr;rw [hp r,if_neg (by omega)];exact i3 r (by have:=S.rep;omega)
   ·rw [pY,hq] at e1
    obtain rfl:q'=q:=by omega
    rw [hp q',if_pos rfl] at e2;have:=List.append_inj' e2 rfl;rw [pY];have h2:=this.2;simp at h2;rw [<- h2]
def rL (P:Pst):Prop:=af (ae P) P
theorem kf {P:Pst} (hv:P.vec=V.aL (V.at' P.vec)) (hc:chain P.vec sn0 P.cloud):rL P:=by
 obtain ⟨h1,h2,_,_⟩:=zbp P.vec _ P.cloud rfl hc
 have key:∀ r,r < 16 -> form 1 (ae P r)/\ar (ae P r)=V.at' P.vec r/\a7 (ae P r)=ag P.cloud r:=by
  intro r hr;have hb:=V.zda P.vec r;have hf:=h2 r hr;unfold ae aW;by_cases h0:0 < V.at' P.vec r
  ·rw [if_pos h0];exact ⟨⟨Int.le_refl _,(show (1:Int) <= V.at' P.vec r by omega),hb.2,hf⟩,rfl,rfl⟩
  ·rw [if_neg h0]
   have e0:V.at' P.vec r=0:=by omega
   rw [e0] at hf ⊢;rw [List.nil_append];refine ⟨jQ (by omega) hf,?_⟩
   cases hcp:ag P.cloud r with
   | nil=>exact ⟨rfl,rfl⟩
   | cons x t =>
    rw [hcp] at hf;have:=hf.1
    have ch:¬ x.lo=1:=by omega
    simp [ar,a7,ch]
 refine ⟨ae P,fun r hr=>aT.self (key r hr).1,?_⟩;unfold dM;rw [yY,kc (G':=ag P.cloud) 16 (fun r hr=>(key r hr).2.2),<- h1,xO (g:=V.at' P.vec) (fun r hr=>(key r hr).2.1),<- hv]
theorem zg3 {N:Nat -> List Rn} (hN:∀ r,r < 16 -> form 1 (N r)) (Z:List Int) (hZ:Z=V.aL (fun r=>ar (N r))):∀ r,r < 16 -> V.at' Z r=ar (N r):=by
 have hf:∀ r,r < 16 -> 0 <= ar (N r)/\ar (N r) <= 1000000000:=fun r hr=>jP (hN r hr);intro r hr;rw [hZ];exact zc9 hf r hr
theorem zg2 {N:Nat -> List Rn} (Z:List Int) (hZ:Z=V.aL (fun r=>ar (N r))) (hz:∀ r,r < 16 -> V.at' Z r=ar (N r)):Z=V.aL (V.at' Z):=by
 rw [xO hz];exact hZ
theorem zdP (N:Nat -> List Rn):(dM N).vec=V.aL (fun r=>ar (N r)):=rfl
theorem zbt (N:Nat -> List Rn):(dM N).cloud=aJ N 16:=rfl
theorem zg4 {N:Nat -> List Rn} (hN:∀ r,r < 16 -> form 1 (N r)) (Z:List Int) (hz:∀ r,r < 16 -> V.at' Z r=ar (N r)) (k:Nat) (hk:k <= 16) (L:List Sn) (hL:L=aJ N k):chain Z sn0 L:=by
 rw [hL];exact (vP hN hz k hk).1
theorem ke {P:Pst} {G:Nat -> List Rn} (h:af G P):P.vec=V.aL (V.at' P.vec)/\chain P.vec sn0 P.cloud:=by
 obtain ⟨N,hN,e⟩:=h
 have e1:P.vec=V.aL (fun r=>ar (N r)):=by rw [e,zdP]
 have e2:P.cloud=aJ N 16:=by rw [e,zbt]
 have Eh:∀ r,r < 16 -> form 1 (N r):=fun r hr=>(hN r hr).1;have hz:=zg3 Eh P.vec e1;exact And.intro (zg2 P.vec e1 hz) (zg4 Eh P.vec hz 16 (Nat.le_refl _) P.cloud e2)
theorem zW {P:Pst}:rL P↔P.vec=V.aL (V.at' P.vec)/\chain P.vec sn0 P.cloud:=⟨fun h=>ke h,fun h=>kf h.1 h.2⟩
theorem af.canon {P:Pst} {G:Nat -> List Rn} (h:af G P):rL P:=zW.2 (ke h)
end
end Go.Proofs.YtjffpimfngdggaaGreat
namespace Go.Proofs.YtjffpimfngdggaaGreat.V
open Go.RowKit

theorem zdY (f:Nat -> Int) (k:Nat):∀ r,dD f k <= r -> r < k -> f r=0:=by
 induction k with
 | zero=>intro r _ h;omega
 | succ k ih =>
  intro r h1 h2;unfold dD at h1
  split at h1
  ·by_cases e:r=k
   ·subst e;assumption
   ·exact ih r h1 (by omega)
  ·omega
theorem zd0 (f:Nat -> Int) (k:Nat) (h:dD f k≠0):f (dD f k - 1)≠0:=by
 induction k with
 | zero=>simp [dD] at h
 | succ k ih =>
  unfold dD at h ⊢
  split
  ·rename_i e;rw [if_pos e] at h;exact ih h
  ·rename_i e;simpa using e
theorem zcn (f:Nat -> Int) (r:Nat) (h1:top f <= r) (h2:r < 16):f r=0:=zdY f 16 r h1 h2
theorem zco (f:Nat -> Int) (h:top f≠0):f (top f - 1)≠0:=zd0 f 16 h
theorem zdd (f:Nat -> Int) (n:Nat) (ui:n <= 16) (h1:∀ r,n <= r -> r < 16 -> f r=0) (h2:n=0∨f (n - 1)≠0):top f=n:=by
 have a:=vI f;rcases Nat.lt_trichotomy (top f) n with h | h | h
 ·rcases h2 with h2 | h2
  ·omega
  ·exact absurd (zcn f (n - 1) (by omega) (by omega)) h2
 ·exact h
 ·exact absurd (h1 (top f - 1) (by omega) (by omega)) (zco f (by omega))
theorem vY (f:Nat -> Int) (k:Nat) (h:k < top f):(aL f).getD k 0=f k:=by simp [aL,List.getD,h]
theorem j5 (f:Nat -> Int) (k:Nat) (h:k < 16):(aL f).getD k 0=f k:=by
 by_cases hk:k < top f
 ·exact vY f k hk
 ·rw [zcn f k (by omega) h];simp [aL,List.getD,hk]
theorem zgX {z:Int} (h:0 <= z/\z <= 1000000000):eI z=z:=by unfold eI;rw [if_neg (by omega),if_neg (by omega)]
theorem zgb (Z:List Int) (h:16 < Z.length):decide (Z=aL (at' Z))=false:=by
 rw [decide_eq_false_iff_not];intro e;have a:=vI (at' Z);have:=congrArg List.length e;rw [zR] at this;omega
theorem zcF (Z:List Int) (k:Nat) (hk:k < Z.length) (h:¬ (0 <= Z.getD k 0/\Z.getD k 0 <= 1000000000)):decide (Z=aL (at' Z))=false:=by
 rw [decide_eq_false_iff_not];intro e;apply h;have hl:=congrArg List.length e;rw [zR] at hl;rw [e,vY _ k (by omega)];exact zda Z k
theorem zdv (Z:List Int) (h0:0 < Z.length) (h:Z.getD (Z.length - 1) 0=0):decide (Z=aL (at' Z))=false:=by
 rw [decide_eq_false_iff_not];intro e;have hl:=congrArg List.length e;rw [zR] at hl;have h1:=zco (at' Z) (by omega);have h2:=vY (at' Z) (top (at' Z) - 1) (by omega);rw [<- e,<- hl] at h2;rw [<- hl,<- h2] at h1;exact h1 h
theorem zeP (Z:List Int) (ui:Z.length <= 16) (hw:∀ k,k < Z.length -> 0 <= Z.getD k 0/\Z.getD k 0 <= 1000000000) (h0:Z.length=0∨Z.getD (Z.length - 1) 0≠0):decide (Z=aL (at' Z))=true:=by
 rw [decide_eq_true_iff]
 have gZ:∀ r,r < Z.length -> at' Z r=Z.getD r 0:=fun r hr=>by unfold at';rw [if_pos (by omega)];exact zgX (hw r hr)
 have ht:top (at' Z)=Z.length:=by
  refine zdd _ _ ui (fun r h1 h2=>?_) ?_
  ·unfold at';rw [if_pos h2,List.getD,List.getElem?_eq_none h1];rfl
  ·rcases h0 with h | h
   ·exact Or.inl h
   ·by_cases hz:Z.length=0
    ·exact Or.inl hz
    ·exact Or.inr (by rw [gZ _ (by omega)];exact h)
 apply List.ext_getElem
 ·rw [zR,ht]
 ·intro i h1 h2;have e1:(aL (at' Z)).getD i 0=at' Z i:=vY _ i (by omega);rw [gZ i h1] at e1;simp only [List.getD,List.getElem?_eq_getElem h1,List.getElem?_eq_getElem h2,Option.getD_some] at e1;exact e1.symm

theorem Src.at {w:World} {ao:Option Addr} {n c:Nat} {Z:List Int} (S:Src w ao n c Z) (k:Nat) (h:k < n):∃ ad,ao=some ad/\w.cell? (ad.add k)=some (.int .i64 (Z.getD k 0)):=by
 cases ao with
 | none=>have:=S.2.1 rfl;omega
 | some ad=>exact ⟨ad,rfl,S.2.2 ad rfl k h⟩
theorem zdy (ao:Option Addr) (n cap:Nat) (Z:List Int) (w:World) (hS:Src w ao n cap Z) :
  Calls Tryz.prog 113 #[.slice ao n cap] w fun e w'=>e = .returned (.bool (decide (Z=aL (at' Z))))/\Below w.heap.size w w':=by
 have HS:=hide hS;have hl:=hS.1;have HL:=hide hl;clear hS;by_cases ui:16 < n
 ·have HF:=hide (zgb Z (by omega))
  have GX:(16:Int) < n:=by omega
  clear hl;go_enter Tryz.func113,Tryz.ntmps113;go_wp2;go_ret;exact ⟨zu HF.out.symm,Below.refl _ _⟩
 have GX:¬ (16:Int) < n:=by omega
 clear hl;go_enter Tryz.func113,Tryz.ntmps113;go_wp2;go_loopw [10] (fun i wr=>∃ k:Nat,k <= n/\i = .int .i64 k/\Hid (∀ j,j < k -> 0 <= Z.getD j 0/\Z.getD j 0 <= 1000000000)/\wr=w) (fun i _=>n - (intOf i).toNat)
 case atStart=>exact ⟨0,Nat.zero_le _,rfl,fun j h=>(by omega),by trivial⟩
 case round =>
  obtain ⟨k,hk,rfl,HW,rfl⟩:=hrel;by_cases ak:k < n
  ·obtain ⟨ad,rfl,ca⟩:=HS.out.at k ak;obtain ⟨z,HX⟩:∃ z,Hid (Z.getD k 0=z):=⟨_,rfl⟩;rw [HX.out] at ca;by_cases h1:z < 0
   ·have HF:=hide (zcF Z k (by have:=HL.out;omega) (by rw [HX.out];omega));go_wp2;go_ret;exact ⟨zu HF.out.symm,Below.refl _ _⟩
   ·by_cases h2:1000000000 < z
    ·have HF:=hide (zcF Z k (by have:=HL.out;omega) (by rw [HX.out];omega));go_wp2;go_ret;exact ⟨zu HF.out.symm,Below.refl _ _⟩
    ·go_wp2;go_roundw
     case rel =>
      refine ⟨k+1,by omega,by go_num,fun j hj=>?_,by trivial⟩;by_cases e:j=k
      ·subst e;rw [HX.out];omega
      ·exact HW.out j (by omega)
     case measure=>simp [intOf];omega
  ·obtain rfl:k=n:=by omega
   by_cases h0:k=0
   ·subst h0;have HF:=hide (zeP Z (by have:=HL.out;omega) (fun j hj=>HW.out j (by have:=HL.out;omega)) (Or.inl HL.out));go_wp2;go_ret;exact ⟨zu HF.out.symm,Below.refl _ _⟩
   ·have gK:((k:Int) == 0)=false:=by simpa using h0
    obtain ⟨ad,rfl,ca⟩:=HS.out.at (k - 1) (by omega);obtain ⟨z,HX⟩:∃ z,Hid (Z.getD (k - 1) 0=z):=⟨_,rfl⟩;rw [HX.out] at ca
    have hi:((k:Int) - 1).toNat=k - 1:=by omega
    have hA:(1:Int) <= k:=by omega
    by_cases hz:z=0
    ·have HF:=hide (zdv Z (by have:=HL.out;omega) (by rw [HL.out,HX.out];exact hz))
     have FA:(z != 0)=false:=by simp [hz]
     clear hz;go_wp2;go_ret;exact ⟨zu HF.out.symm,Below.refl _ _⟩
    ·have HF:=hide (zeP Z (by have:=HL.out;omega) (fun j hj=>HW.out j (by have:=HL.out;omega)) (Or.inr (by rw [HL.out,HX.out];exact hz)))
     have FA:(z != 0)=true:=by simp [hz]
     clear hz;go_wp2;go_ret;exact ⟨zu HF.out.symm,Below.refl _ _⟩
end Go.Proofs.YtjffpimfngdggaaGreat.V
