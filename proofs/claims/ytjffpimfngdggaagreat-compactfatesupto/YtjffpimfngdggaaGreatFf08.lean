/- PSm PNa PNo VKc -/
import Derived.Test.YtjffpimfngdggaaGreatFf05
import Derived.Laws.StructEq
set_option maxRecDepth 100000
set_option maxHeartbeats 4000000
namespace Go.Proofs.YtjffpimfngdggaaGreat
section
open Go.RowKit
attribute [local go_sem ↓] zq zp x9
attribute [local go_sem] zI zi qq zk
def eqS (x y:Sn):Bool:=x.rep == y.rep && x.lo == y.lo && x.hi == y.hi
theorem zcv (x y:Sn):eqS x y=true↔x=y:=by
 obtain ⟨a,b,c⟩:=x;obtain ⟨a',b',c'⟩:=y;simp [eqS,and_assoc]
theorem zb7 (x y:Sn) (w:World):(Op.equalIn 10000 104 (.agg (SC x)) (.agg (SC y))).run Tryz.prog w = .ok (eqS x y) w:=by
 have u3:=Tryz.underlying3;have a3:=Tryz.isAgg3;have z3:=Tryz.sizeOf3
 have hS:Tryz.prog.underlying 104=some (.struct (Tryz.prog.fieldsOf 104)):=by kernel_rfl
 have hp:Tryz.prog.stoodInHeld 104=false:=by kernel_rfl
 obtain ⟨a,b,c⟩:=x;obtain ⟨a',b',c'⟩:=y
 show (Op.equalIn 10000 104 (.agg #[.int .i64 a,.int .i64 b,.int .i64 c]) (.agg #[.int .i64 a',.int .i64 b',.int .i64 c'])).run Tryz.prog w = .ok (a == a' && b == b' && c == c') w
 rw [show (10000:Nat)=9999+1 from rfl,run_equalIn_struct w 9999 104 _ _ hS hp];simp only [Program.fieldsOf,Tryz.underlying104];have h3:∀ (p q:Int) w,(Op.equalIn 9999 3 (.int .i64 p) (.int .i64 q)).run Tryz.prog w = .ok (p == q) w:=fun p q w=>run_equalIn_int w 9998 3 .i64 .i64 p q Tryz.underlying3;obtain ⟨D,hD⟩:∃ D,9999=D:=⟨9999,rfl⟩;rw [hD] at h3 ⊢;go_simp;by_cases e1:a=a'
 ·by_cases e2:b=b'
  ·by_cases e3:c=c'
   ·simp [e1,e2,e3]
   ·simp [e1,e2,e3]
  ·simp [e1,e2]
 ·simp [e1]
attribute [local go_sem ↓] zb7
theorem j9 (l:List Sn) (k:Nat) (h:k < l.length):l.take (k+1)=l.take k++[l.getD k sn0]:=by
 rw [List.take_succ_eq_append_getElem h];simp [List.getD,h]
theorem kd (l:List Int) (k:Nat) (h:k < l.length):l.take (k+1)=l.take k++[l.getD k 0]:=by
 rw [List.take_succ_eq_append_getElem h];simp [List.getD,h]
def dl (w w':World) (e:Ending) (P:Prop):Prop:=∃ x,e = .returned (.bool x)/\(x=true↔P)/\Below w.heap.size w w'
theorem vA {w:World} {ao:Option Addr} {n c:Nat} {Z:List Int} (S:V.Src w ao n c Z) (k:Nat) (h:k < n):∃ ad,ao=some ad/\w.cell? (ad.add k)=some (.int .i64 (Z.getD k 0)):=by
 cases ao with
 | none=>have:=S.2.1 rfl;omega
 | some ad=>exact ⟨ad,rfl,S.2.2 ad rfl k h⟩

theorem jg (a b:Pv) (w:World) (hA:am w a) (hB:am w b) :
  Calls Tryz.prog 29 #[PV a,PV b] w fun e w'=>dl w w' e (a.P=b.P):=by
 have b1:=ze w (.cells (PC a) 26);have b2:=ze (w.alloc (.cells (PC a) 26)) (.cells (PC b) 26);have p2:=zm (w.alloc (.cells (PC a) 26)) b;rw [World.size_alloc] at p2;have lX:=hide ((zm w a).below b2);have i9:=hide p2;have al:=hide (b1.trans (b2.mono b1.size));have iu:=hide (hA.below al);have gC:=hide (hB.below al);obtain ⟨wk,aL⟩:∃ wk,(w.alloc (.cells (PC a) 26)).alloc (.cells (PC b) 26)=wk:=⟨_,rfl⟩;rw [aL] at lX i9 al iu gC;obtain ⟨a0,a1⟩:=lX.nums;obtain ⟨c0,c1⟩:=i9.nums;have Jl:=hide iu.vec;have Io:=hide gC.vec;have DY:=hide iu.cloud;have Gi:=hide gC.cloud;have g1:=hA.big;have g2:=hA.cloud.big;have g3:=hB.big;have g4:=hB.cloud.big;clear b1 b2 p2 hA hB iu gC;obtain ⟨avo,avn,avc,aco,acn,acc,aP⟩:=a;obtain ⟨bvo,bvn,bvc,bco,bcn,bcc,bP⟩:=b
 dsimp only at a0 a1 c0 c1 Jl Io DY Gi g1 g2 g3 g4 ⊢;have mN:Hid (aP.vec.length=avn):=Jl.1;have mM:Hid (bP.vec.length=bvn):=Io.1;have gF:=hide DY.len;have gO:=hide Gi.len;by_cases hv:avn=bvn
 ·by_cases hc:acn=bcn
  ·subst hv hc;go_enter Tryz.func29,Tryz.ntmps29;go_wp2_with fail;clear aL;go_loopw [5] (fun i wr=>∃ k:Nat,k <= avn/\i = .int .i64 k/\Hid (aP.vec.take k=bP.vec.take k)/\Hid (Below wk.heap.size wk wr)) (fun i _=>avn - (intOf i).toNat)
   case atStart=>exact ⟨0,Nat.zero_le _,rfl,rfl,Below.refl _ _⟩
   case round =>
    obtain ⟨k,hk,rfl,HT,HB⟩:=hrel
    rename World=>w6
    have a0':=(HB.cell (World.block_lt_of_cell? _ _ a0)).trans a0;have c0':=(HB.cell (World.block_lt_of_cell? _ _ c0)).trans c0;by_cases ak:k < avn
    ·obtain ⟨ad,rfl,q1⟩:=vA (Jl.below HB) k ak;obtain ⟨bd,rfl,q2⟩:=vA (Io.below HB) k ak;have t1:=hide (kd aP.vec k (by rw [mN.out];exact ak));have t2:=hide (kd bP.vec k (by rw [mM.out];exact ak));obtain ⟨x,Hx⟩:∃ x,Hid (aP.vec.getD k 0=x):=⟨_,rfl⟩;obtain ⟨y,Hy⟩:∃ y,Hid (bP.vec.getD k 0=y):=⟨_,rfl⟩;rw [Hx.out] at q1 t1;rw [Hy.out] at q2 t2;have r1:=cell_regrown a0';have r2:=cell_regrown c0';have r3:=cell_regrown q1;have r4:=cell_regrown q2;clear q1 q2;by_cases he:x=y
     ·have HE:=hide he
      have nX:(x != y)=false:=by simp [he]
      clear he;go_wp2_with fail;refine wp_region_quiet_below (by kernel_rfl) (by kernel_rfl) ?_
      repeat (with_reducible (refine wpQuiet_step ?_);intro K hK;go_simp;(try rw [if_neg (by unfold undef;simp)]);first | (with_reducible (refine hK _ ?_);clear hK K) | (apply Exists.intro;refine ⟨fun _=>?_,hK _ ?_⟩;(fail);clear hK K))
      with_reducible (refine wpQuiet_nil ?_)
      intro w7 hw';obtain ⟨⟨dq,osq⟩,hw''⟩:=hw'
      have b7:Below w6.heap.size w6 w7:=by rw [hw''];exact below_regrown w6 dq osq
      have dR:=wTr HB b7;clear hw'' dq osq b7;clear r1 r2 r3 r4;go_wp2_with fail;go_roundw
      case rel=>exact ⟨k+1,by omega,by go_num,by show _=_;rw [t1.out,t2.out,HT.out,HE.out],dR.out⟩
      case measure=>simp [intOf];omega
     ·have nX:(x != y)=true:=by simp [he]
      have ek:Hid (¬ aP=bP):=fun h=>he (by rw [<- Hx.out,<- Hy.out,h]);clear he;go_wp2_with fail;refine wp_region_quiet_below (by kernel_rfl) (by kernel_rfl) ?_
      repeat (with_reducible (refine wpQuiet_step ?_);intro K hK;go_simp;(try rw [if_neg (by unfold undef;simp)]);first | (with_reducible (refine hK _ ?_);clear hK K) | (apply Exists.intro;refine ⟨fun _=>?_,hK _ ?_⟩;(fail);clear hK K))
      with_reducible (refine wpQuiet_nil ?_)
      intro w7 hw';obtain ⟨⟨dq,osq⟩,hw''⟩:=hw'
      have b7:Below w6.heap.size w6 w7:=by rw [hw''];exact below_regrown w6 dq osq
      have dR:=wTr HB b7;clear hw'' dq osq b7;clear r1 r2 r3 r4;have fk:=wTr al dR.out;go_wp2_with fail;go_ret;exact ⟨false,rfl,⟨(fun h=>by cases h),fun h=>absurd h ek⟩,fk.out⟩
    ·obtain rfl:k=avn:=by omega
     have iR:Hid (aP.vec=bP.vec):=by
      show _=_
      have h:=HT.out;rw [List.take_of_length_le (by rw [mN.out];exact Nat.le_refl _),List.take_of_length_le (by rw [mM.out];exact Nat.le_refl _)] at h;exact h
     go_wp2_with fail;go_loopw [6] (fun i wr=>∃ k:Nat,k <= acn/\i = .int .i64 k/\Hid (aP.cloud.take k=bP.cloud.take k)/\Hid (Below wk.heap.size wk wr)) (fun i _=>acn - (intOf i).toNat)
     case atStart=>exact ⟨0,Nat.zero_le _,rfl,rfl,HB.out⟩
     case round =>
      obtain ⟨j,hj,rfl,HT,HB⟩:=hrel
      rename World=>w6
      have a1':=(HB.cell (World.block_lt_of_cell? _ _ a1)).trans a1;have c1':=(HB.cell (World.block_lt_of_cell? _ _ c1)).trans c1;by_cases ak:j < acn
      ·obtain ⟨ad,rfl,q1⟩:=(DY.below HB).at j ak;obtain ⟨bd,rfl,q2⟩:=(Gi.below HB).at j ak;have t1:=hide (j9 aP.cloud j (by rw [gF.out];exact ak));have t2:=hide (j9 bP.cloud j (by rw [gO.out];exact ak));obtain ⟨x,Hx⟩:∃ x,Hid (aP.cloud.getD j sn0=x):=⟨_,rfl⟩;obtain ⟨y,Hy⟩:∃ y,Hid (bP.cloud.getD j sn0=y):=⟨_,rfl⟩;rw [Hx.out] at q1 t1;rw [Hy.out] at q2 t2;have r1:=cell_regrown a1';have r2:=cell_regrown c1';have r3:∀ d os,(ldS (.pointer (some (ad.add (j * 3))))).run Tryz.prog (Sort.grow (redrawn w6 d) os) = .ok (SV x) (Sort.grow (redrawn w6 d) os):=fun d os=>qk (q1.on (below_regrown w6 d os));have r4:∀ d os,(ldS (.pointer (some (bd.add (j * 3))))).run Tryz.prog (Sort.grow (redrawn w6 d) os) = .ok (SV y) (Sort.grow (redrawn w6 d) os):=fun d os=>qk (q2.on (below_regrown w6 d os));clear q1 q2
       obtain ⟨z,hz⟩:∃ z,eqS x y=z:=⟨_,rfl⟩
       have HZ:Hid (z=true↔x=y):=by rw [<- hz];exact zcv x y
       cases z with
       | true =>
        have oe:=hide (HZ.1 rfl);clear HZ;go_wp2_with fail;refine wp_region_quiet_below (by kernel_rfl) (by kernel_rfl) ?_
        repeat (with_reducible (refine wpQuiet_step ?_);intro K hK;go_simp;(try rw [if_neg (by unfold undef;simp)]);first | (with_reducible (refine hK _ ?_);clear hK K) | (apply Exists.intro;refine ⟨fun _=>?_,hK _ ?_⟩;(fail);clear hK K))
        with_reducible (refine wpQuiet_nil ?_)
        intro w7 hw';obtain ⟨⟨dq,osq⟩,hw''⟩:=hw'
        have b7:Below w6.heap.size w6 w7:=by rw [hw''];exact below_regrown w6 dq osq
        have dR:=wTr HB b7;clear hw'' dq osq b7;clear r1 r2 r3 r4;go_wp2_with fail;go_roundw
        case rel=>exact ⟨j+1,by omega,by go_num,by show _=_;rw [t1.out,t2.out,HT.out,oe.out],dR.out⟩
        case measure=>simp [intOf];omega
       | false =>
        have ek:Hid (¬ aP=bP):=fun h=>by
         have:=HZ.2 (by rw [<- Hx.out,<- Hy.out,h])
         cases this
        go_wp2_with fail;refine wp_region_quiet_below (by kernel_rfl) (by kernel_rfl) ?_
        repeat (with_reducible (refine wpQuiet_step ?_);intro K hK;go_simp;(try rw [if_neg (by unfold undef;simp)]);first | (with_reducible (refine hK _ ?_);clear hK K) | (apply Exists.intro;refine ⟨fun _=>?_,hK _ ?_⟩;(fail);clear hK K))
        with_reducible (refine wpQuiet_nil ?_)
        intro w7 hw';obtain ⟨⟨dq,osq⟩,hw''⟩:=hw'
        have b7:Below w6.heap.size w6 w7:=by rw [hw''];exact below_regrown w6 dq osq
        have dR:=wTr HB b7;clear hw'' dq osq b7;clear r1 r2 r3 r4;have fk:=wTr al dR.out;go_wp2_with fail;go_ret;exact ⟨false,rfl,⟨(fun h=>by cases h),fun h=>absurd h ek⟩,fk.out⟩
      ·obtain rfl:j=acn:=by omega
       have Ng:Hid (aP.cloud=bP.cloud):=by
        show _=_
        have h:=HT.out;rw [List.take_of_length_le (by rw [gF.out];exact Nat.le_refl _),List.take_of_length_le (by rw [gO.out];exact Nat.le_refl _)] at h;exact h
       have fk:=wTr al HB.out;go_wp2_with fail;go_ret;exact ⟨true,rfl,⟨fun _=>by obtain ⟨v1,c1⟩:=aP;obtain ⟨v2,c2⟩:=bP;have e1:v1=v2:=iR.out;have e2:c1=c2:=Ng.out;rw [e1,e2],fun _=>rfl⟩,fk.out⟩
  ·have d1:((avn:Int) != (bvn:Int))=false:=by simp [hv]
   have d2:((acn:Int) != (bcn:Int))=true:=by simp;omega
   have ek:Hid (¬ aP=bP):=fun h=>hc (by rw [<- gF.out,<- gO.out,h]);clear hv hc;go_enter Tryz.func29,Tryz.ntmps29;go_wp2_with fail;go_ret;exact ⟨false,rfl,⟨(fun h=>by cases h),fun h=>absurd h ek⟩,al.out⟩
 ·have d1:((avn:Int) != (bvn:Int))=true:=by simp;omega
  have ek:Hid (¬ aP=bP):=fun h=>hv (by rw [<- mN.out,<- mM.out,h]);clear hv;go_enter Tryz.func29,Tryz.ntmps29;go_wp2_with fail;go_ret;exact ⟨false,rfl,⟨(fun h=>by cases h),fun h=>absurd h ek⟩,al.out⟩
end
section
open Go.RowKit

structure gX (Z:List Int) (a c:Sn):Prop where
 isr:V.isR c.rep=true
 rep:a.rep <= c.rep
 lead:V.atI Z c.rep+2 <= c.lo
 gap:c.rep=a.rep -> a.hi+2 <= c.lo
 ord:c.lo <= c.hi
 top:c.hi <= 1000000000
def chain (Z:List Int):Sn -> List Sn -> Prop
 | _,[]=>True
 | a,c :: t=>gX Z a c/\chain Z c t
def du:Sn -> List Sn -> Sn
 | a,[]=>a
 | _,c :: t=>du c t
theorem vX (a:Sn) (L M:List Sn):du a (L++M)=du (du a L) M:=by
 induction L generalizing a with
 | nil=>rfl
 | cons c t ih=>exact ih c
theorem bp (a c:Sn) (L:List Sn):du a (L++[c])=c:=by rw [vX];rfl
theorem j5 (Z:List Int) (a:Sn) (L M:List Sn):chain Z a (L++M)↔chain Z a L/\chain Z (du a L) M:=by
 induction L generalizing a with
 | nil=>simp [chain,du]
 | cons c t ih =>
  show gX Z a c/\chain Z c (t++M)↔(gX Z a c/\chain Z c t)/\chain Z (du c t) M
  rw [ih c,and_assoc]
theorem vR (Z:List Int) (a c:Sn) (L:List Sn):chain Z a (L++[c])↔chain Z a L/\gX Z (du a L) c:=by
 rw [j5];simp [chain]
end
section
open Go.RowKit

theorem zfo {k:Nat} (h:k < 16):V.isR (k:Int)=true:=by simp [V.isR];omega
theorem zf3 (Z:List Int) {k:Nat} (h:k < 16):V.atI Z (k:Int)=V.at' Z k:=by unfold V.atI;rw [if_pos (zfo h),Int.toNat_natCast]
theorem zbL (Z:List Int) (k:Nat) (hk:k < 16):∀ (L:List Rn) (a:Sn) (l:Int),a.rep <= (k:Int) -> V.at' Z k+2 <= l -> (a.rep=(k:Int) -> a.hi+2 <= l) -> form l L -> chain Z a (tag k L)
 | [],_,_,_,_,_,_=>trivial
 | r :: t,a,l,ha,hl,hg,h=>by
  have h1:=h.1;have h2:=h.2.1;have h3:=h.2.2.1;refine ⟨⟨zfo hk,ha,?_,fun e=>?_,h2,h3⟩,zbL Z k hk t _ (r.hi+2) (Int.le_refl _) ?_ (fun _=>Int.le_refl _) h.2.2.2⟩
  ·show V.atI Z (k:Int)+2 <= r.lo
   rw [zf3 Z hk];omega
  ·have:=hg e.symm
   show a.hi+2 <= r.lo
   omega
  ·omega
theorem zdj (a:Sn) (k:Nat):∀ (L:List Rn),L=[]∨(du a (tag k L)).rep=(k:Int)
 | []=>Or.inl rfl
 | r :: t=>by
  right;rcases zdj ⟨(k:Int),r.lo,r.hi⟩ k t with h | h
  ·subst h;rfl
  ·exact h
theorem zfy {X:List Rn} (h:form 1 X):form (au X+2) (a8 X):=by
 cases X with
 | nil=>trivial
 | cons r t =>
  by_cases e:r.lo=1
  ·simp only [au,a8,if_pos e];exact h.2.2.2
  ·simp only [au,a8,if_neg e];have:=h.1;exact ⟨by omega,h.2⟩
theorem vZ {N:Nat -> List Rn} {Z:List Int} (hN:∀ r,r < 16 -> form 1 (N r)) (hZ:∀ r,r < 16 -> V.at' Z r=au (N r)):∀ k,k <= 16 -> chain Z sn0 (aJ N k)/\(aJ N k=[]∨(du sn0 (aJ N k)).rep < (k:Int))
 | 0,_=>⟨trivial,Or.inl rfl⟩
 | k+1,hk=>by
  obtain ⟨h1,h2⟩:=vZ hN hZ k (by omega);have hb:=jY (hN k (by omega));rw [aJ,j5,vX];refine ⟨⟨h1,zbL Z k (by omega) _ _ (au (N k)+2) ?_ (by rw [hZ k (by omega)];exact Int.le_refl _) (fun e=>?_) (zfy (hN k (by omega)))⟩,?_⟩
  ·rcases h2 with h | h
   ·rw [h];show (0:Int) <= _;omega
   ·omega
  ·rcases h2 with h | h
   ·rw [h];show (0:Int)+2 <= _;omega
   ·omega
  ·rcases zdj (du sn0 (aJ N k)) k (a8 (N k)) with h | h
   ·rcases h2 with g | g
    ·left;rw [g,h];rfl
    ·right;rw [h];show (du sn0 (aJ N k)).rep < _;omega
   ·right;rw [h];omega
def iG (G:Nat -> List Rn):Nat -> List Sn
 | 0=>[]
 | k+1=>iG G k++tag k (G k)
theorem bC (N:Nat -> List Rn):∀ k,aJ N k=iG (fun r=>a8 (N r)) k
 | 0=>rfl
 | k+1=>by rw [aJ,iG,bC N k]
theorem kl {G G':Nat -> List Rn}:∀ k,(∀ r,r < k -> G r=G' r) -> iG G k=iG G' k
 | 0,_=>rfl
 | k+1,h=>by rw [iG,iG,kl k (fun r hr=>h r (by omega)),h k (by omega)]
theorem zbN (G:Nat -> List Rn) (q:Nat) (x:Rn) (hG:∀ r,q < r -> G r=[]):∀ k,iG (fun r=>if r=q then G r++[x] else G r) k=iG G k++(if q < k then [⟨(q:Int),x.lo,x.hi⟩] else [])
 | 0=>by simp [iG]
 | k+1=>by
  rw [iG,iG,zbN G q x hG k];by_cases h:k=q
  ·subst h;simp [tag]
  ·by_cases h':q < k
   ·simp [h,h',hG k h',show q < k+1 by omega,tag]
   ·simp [h,h',show ¬ q < k+1 by omega]
theorem zd5 {acc:List Rn} {r:Rn} {l:Int} (h:form l acc) (hg:∀ i x,acc=i++[x] -> x.hi+2 <= r.lo) (h1:l <= r.lo) (h2:r.lo <= r.hi) (h3:r.hi <= 1000000000):form l (acc++[r]):=by
 rcases List.eq_nil_or_concat acc with e | ⟨i,x,e⟩
 ·subst e;exact ⟨h1,h2,h3,trivial⟩
 ·rw [List.concat_eq_append] at e;subst e;exact kZ h (hg i x rfl) h2 h3
theorem zbM (Z:List Int):∀ (n:Nat) (L:List Sn),L.length=n -> chain Z sn0 L -> L=iG (aj L) 16/\(∀ r,r < 16 -> form (V.at' Z r+2) (aj L r))/\(∀ r:Nat,(du sn0 L).rep < (r:Int) -> aj L r=[])/\(∀ (q:Nat) i x,(q:Int)=(du sn0 L).rep -> aj L q=i++[x] -> x.hi=(du sn0 L).hi)
 | 0,L,hn,_=>by
  obtain rfl:=List.eq_nil_of_length_eq_zero hn
  have e:∀ r,aj [] r=[]:=fun r=>by simp [aj]
  refine ⟨?_,fun r _=>by rw [e];trivial,fun r _=>e r,fun q i x _ h=>by rw [e] at h;simp at h⟩;rw [kl (G':=fun _=>[]) 16 (fun r _=>e r)];rfl
 | n+1,L,hn,h=>by
  rcases List.eq_nil_or_concat L with e | ⟨M,c,e⟩
  ·subst e;simp at hn
  ·rw [List.concat_eq_append] at e;subst e;rw [vR] at h;obtain ⟨i1,i2,i3,i4⟩:=zbM Z n M (by simpa using hn) h.1;have S:=h.2
   obtain ⟨q,hq,GI⟩:∃ q:Nat,c.rep=(q:Int)/\q < 16:=by
    have:=S.isr;simp [V.isR] at this;exact ⟨c.rep.toNat,by omega,by omega⟩
   have hp:∀ r,aj (M++[c]) r=if r=q then aj M r++[⟨c.lo,c.hi⟩] else aj M r:=fun r=>by
    rw [jr];by_cases e:r=q
    ·subst e;simp [hq]
    ·have:¬ c.rep=(r:Int):=by rw [hq];omega
     simp [e,this]
   have sf:(du sn0 (M++[c]))=c:=bp _ _ _;refine ⟨?_,fun r hr=>?_,fun r hr=>?_,fun q' i x e1 e2=>?_⟩
   ·rw [kl (G':=fun r=>if r=q then aj M r++[⟨c.lo,c.hi⟩] else aj M r) 16 (fun r _=>hp r),zbN (aj M) q ⟨c.lo,c.hi⟩ (fun r hr=>i3 r (by have:=S.rep;omega)) 16,if_pos GI,<- i1]
    have hc:c=⟨(q:Int),c.lo,c.hi⟩:=by rw [<- hq]
    exact congrArg (fun x=>M++[x]) hc
   ·rw [hp r];by_cases e:r=q
    ·subst e;rw [if_pos rfl];refine zd5 (i2 r hr) (fun i x hx=>?_) ?_ S.ord S.top
     ·by_cases e2:c.rep=(du sn0 M).rep
      ·have h1:=i4 r i x (by rw [<- e2,hq]) hx;have h2:=S.gap e2
       show x.hi+2 <= c.lo
       omega
      ·have:=i3 r (by have:=S.rep;omega);rw [this] at hx;simp at hx
     ·have:=S.lead;rw [hq,zf3 Z hr] at this;exact this
    ·rw [if_neg e];exact i2 r hr
   ·rw [sf,hq] at hr;rw [hp r,if_neg (by omega)];exact i3 r (by have:=S.rep;omega)
   ·rw [sf,hq] at e1
    obtain rfl:q'=q:=by omega
    rw [hp q',if_pos rfl] at e2;have:=List.append_inj' e2 rfl;rw [sf];have h2:=this.2;simp at h2;rw [<- h2]
def tg (P:Pst):Prop:=af (aa P) P
theorem kq {P:Pst} (hv:P.vec=V.aR (V.at' P.vec)) (hc:chain P.vec sn0 P.cloud):tg P:=by
 obtain ⟨h1,h2,_,_⟩:=zbM P.vec _ P.cloud rfl hc
 have key:∀ r,r < 16 -> form 1 (aa P r)/\au (aa P r)=V.at' P.vec r/\a8 (aa P r)=aj P.cloud r:=by
  intro r hr;have hb:=V.zdG P.vec r;have hf:=h2 r hr;unfold aa aZ;by_cases h0:0 < V.at' P.vec r
  ·rw [if_pos h0];exact ⟨⟨Int.le_refl _,(show (1:Int) <= V.at' P.vec r by omega),hb.2,hf⟩,rfl,rfl⟩
  ·rw [if_neg h0]
   have e0:V.at' P.vec r=0:=by omega
   rw [e0] at hf ⊢;rw [List.nil_append];refine ⟨jZ (by omega) hf,?_⟩
   cases hcp:aj P.cloud r with
   | nil=>exact ⟨rfl,rfl⟩
   | cons x t =>
    rw [hcp] at hf;have:=hf.1
    have cr:¬ x.lo=1:=by omega
    simp [au,a8,cr]
 refine ⟨aa P,fun r hr=>aN.self (key r hr).1,?_⟩;unfold dW;rw [bC,kl (G':=aj P.cloud) 16 (fun r hr=>(key r hr).2.2),<- h1,xX (g:=V.at' P.vec) (fun r hr=>(key r hr).2.1),<- hv]
theorem zhD {N:Nat -> List Rn} (hN:∀ r,r < 16 -> form 1 (N r)) (Z:List Int) (hZ:Z=V.aR (fun r=>au (N r))):∀ r,r < 16 -> V.at' Z r=au (N r):=by
 have hf:∀ r,r < 16 -> 0 <= au (N r)/\au (N r) <= 1000000000:=fun r hr=>jY (hN r hr);intro r hr;rw [hZ];exact zdF hf r hr
theorem zhC {N:Nat -> List Rn} (Z:List Int) (hZ:Z=V.aR (fun r=>au (N r))) (hz:∀ r,r < 16 -> V.at' Z r=au (N r)):Z=V.aR (V.at' Z):=by
 rw [xX hz];exact hZ
theorem zel (N:Nat -> List Rn):(dW N).vec=V.aR (fun r=>au (N r)):=rfl
theorem zbP (N:Nat -> List Rn):(dW N).cloud=aJ N 16:=rfl
theorem zhE {N:Nat -> List Rn} (hN:∀ r,r < 16 -> form 1 (N r)) (Z:List Int) (hz:∀ r,r < 16 -> V.at' Z r=au (N r)) (k:Nat) (hk:k <= 16) (L:List Sn) (hL:L=aJ N k):chain Z sn0 L:=by
 rw [hL];exact (vZ hN hz k hk).1
theorem kp {P:Pst} {G:Nat -> List Rn} (h:af G P):P.vec=V.aR (V.at' P.vec)/\chain P.vec sn0 P.cloud:=by
 obtain ⟨N,hN,e⟩:=h
 have e1:P.vec=V.aR (fun r=>au (N r)):=by rw [e,zel]
 have e2:P.cloud=aJ N 16:=by rw [e,zbP]
 have Af:∀ r,r < 16 -> form 1 (N r):=fun r hr=>(hN r hr).1;have hz:=zhD Af P.vec e1;exact And.intro (zhC P.vec e1 hz) (zhE Af P.vec hz 16 (Nat.le_refl _) P.cloud e2)
theorem zT {P:Pst}:tg P↔P.vec=V.aR (V.at' P.vec)/\chain P.vec sn0 P.cloud:=⟨fun h=>kp h,fun h=>kq h.1 h.2⟩
theorem af.canon {P:Pst} {G:Nat -> List Rn} (h:af G P):tg P:=zT.2 (kp h)
end
end Go.Proofs.YtjffpimfngdggaaGreat
namespace Go.Proofs.YtjffpimfngdggaaGreat.V
open Go.RowKit

theorem zev (f:Nat -> Int) (k:Nat):∀ r,dN f k <= r -> r < k -> f r=0:=by
 induction k with
 | zero=>intro r _ h;omega
 | succ k ih =>
  intro r h1 h2;unfold dN at h1
  split at h1
  ·by_cases e:r=k
   ·subst e;assumption
   ·exact ih r h1 (by omega)
  ·omega
theorem zex (f:Nat -> Int) (k:Nat) (h:dN f k≠0):f (dN f k - 1)≠0:=by
 induction k with
 | zero=>simp [dN] at h
 | succ k ih =>
  unfold dN at h ⊢
  split
  ·rename_i e;rw [if_pos e] at h;exact ih h
  ·rename_i e;simpa using e
theorem zcN (f:Nat -> Int) (r:Nat) (h1:top f <= r) (h2:r < 16):f r=0:=zev f 16 r h1 h2
theorem zcO (f:Nat -> Int) (h:top f≠0):f (top f - 1)≠0:=zex f 16 h
theorem zdJ (f:Nat -> Int) (n:Nat) (u6:n <= 16) (h1:∀ r,n <= r -> r < 16 -> f r=0) (h2:n=0∨f (n - 1)≠0):top f=n:=by
 have a:=vT f;rcases Nat.lt_trichotomy (top f) n with h | h | h
 ·rcases h2 with h2 | h2
  ·omega
  ·exact absurd (zcN f (n - 1) (by omega) (by omega)) h2
 ·exact h
 ·exact absurd (h1 (top f - 1) (by omega) (by omega)) (zcO f (by omega))
theorem wo (f:Nat -> Int) (k:Nat) (h:k < top f):(aR f).getD k 0=f k:=by simp [aR,List.getD,h]
theorem kf (f:Nat -> Int) (k:Nat) (h:k < 16):(aR f).getD k 0=f k:=by
 by_cases hk:k < top f
 ·exact wo f k hk
 ·rw [zcN f k (by omega) h];simp [aR,List.getD,hk]
theorem zhx {z:Int} (h:0 <= z/\z <= 1000000000):fE z=z:=by unfold fE;rw [if_neg (by omega),if_neg (by omega)]
theorem zgM (Z:List Int) (h:16 < Z.length):decide (Z=aR (at' Z))=false:=by
 rw [decide_eq_false_iff_not];intro e;have a:=vT (at' Z);have:=congrArg List.length e;rw [zV] at this;omega
theorem zc9 (Z:List Int) (k:Nat) (hk:k < Z.length) (h:¬ (0 <= Z.getD k 0/\Z.getD k 0 <= 1000000000)):decide (Z=aR (at' Z))=false:=by
 rw [decide_eq_false_iff_not];intro e;apply h;have hl:=congrArg List.length e;rw [zV] at hl;rw [e,wo _ k (by omega)];exact zdG Z k
theorem zd0 (Z:List Int) (h0:0 < Z.length) (h:Z.getD (Z.length - 1) 0=0):decide (Z=aR (at' Z))=false:=by
 rw [decide_eq_false_iff_not];intro e;have hl:=congrArg List.length e;rw [zV] at hl;have h1:=zcO (at' Z) (by omega);have h2:=wo (at' Z) (top (at' Z) - 1) (by omega);rw [<- e,<- hl] at h2;rw [<- hl,<- h2] at h1;exact h1 h
theorem zfn (Z:List Int) (u6:Z.length <= 16) (hw:∀ k,k < Z.length -> 0 <= Z.getD k 0/\Z.getD k 0 <= 1000000000) (h0:Z.length=0∨Z.getD (Z.length - 1) 0≠0):decide (Z=aR (at' Z))=true:=by
 rw [decide_eq_true_iff]
 have gS:∀ r,r < Z.length -> at' Z r=Z.getD r 0:=fun r hr=>by unfold at';rw [if_pos (by omega)];exact zhx (hw r hr)
 have ht:top (at' Z)=Z.length:=by
  refine zdJ _ _ u6 (fun r h1 h2=>?_) ?_
  ·unfold at';rw [if_pos h2,List.getD,List.getElem?_eq_none h1];rfl
  ·rcases h0 with h | h
   ·exact Or.inl h
   ·by_cases hz:Z.length=0
    ·exact Or.inl hz
    ·exact Or.inr (by rw [gS _ (by omega)];exact h)
 apply List.ext_getElem
 ·rw [zV,ht]
 ·intro i h1 h2;have e1:(aR (at' Z)).getD i 0=at' Z i:=wo _ i (by omega);rw [gS i h1] at e1;simp only [List.getD,List.getElem?_eq_getElem h1,List.getElem?_eq_getElem h2,Option.getD_some] at e1;exact e1.symm

theorem Src.at {w:World} {ao:Option Addr} {n c:Nat} {Z:List Int} (S:Src w ao n c Z) (k:Nat) (h:k < n):∃ ad,ao=some ad/\w.cell? (ad.add k)=some (.int .i64 (Z.getD k 0)):=by
 cases ao with
 | none=>have:=S.2.1 rfl;omega
 | some ad=>exact ⟨ad,rfl,S.2.2 ad rfl k h⟩
theorem zd2 (ao:Option Addr) (n cap:Nat) (Z:List Int) (w:World) (hS:Src w ao n cap Z) :
  Calls Tryz.prog 113 #[.slice ao n cap] w fun e w'=>e = .returned (.bool (decide (Z=aR (at' Z))))/\Below w.heap.size w w':=by
 have HS:=hide hS;have hl:=hS.1;have HL:=hide hl;clear hS;by_cases u6:16 < n
 ·have HF:=hide (zgM Z (by omega))
  have Gf:(16:Int) < n:=by omega
  clear hl;go_enter Tryz.func113,Tryz.ntmps113;go_wp2;go_ret;exact ⟨zt HF.symm,Below.refl _ _⟩
 have Gf:¬ (16:Int) < n:=by omega
 clear hl;go_enter Tryz.func113,Tryz.ntmps113;go_wp2;go_loopw [10] (fun i wr=>∃ k:Nat,k <= n/\i = .int .i64 k/\Hid (∀ j,j < k -> 0 <= Z.getD j 0/\Z.getD j 0 <= 1000000000)/\wr=w) (fun i _=>n - (intOf i).toNat)
 case atStart=>exact ⟨0,Nat.zero_le _,rfl,fun j h=>(by omega),by trivial⟩
 case round =>
  obtain ⟨k,hk,rfl,HW,rfl⟩:=hrel;by_cases ak:k < n
  ·obtain ⟨ad,rfl,ca⟩:=HS.at k ak;obtain ⟨z,HX⟩:∃ z,Hid (Z.getD k 0=z):=⟨_,rfl⟩;rw [HX.out] at ca;by_cases h1:z < 0
   ·have HF:=hide (zc9 Z k (by have:=HL.out;omega) (by rw [HX.out];omega));go_wp2;go_ret;exact ⟨zt HF.symm,Below.refl _ _⟩
   ·by_cases h2:1000000000 < z
    ·have HF:=hide (zc9 Z k (by have:=HL.out;omega) (by rw [HX.out];omega));go_wp2;go_ret;exact ⟨zt HF.symm,Below.refl _ _⟩
    ·go_wp2;go_roundw
     case rel =>
      refine ⟨k+1,by omega,by go_num,fun j hj=>?_,by trivial⟩;by_cases e:j=k
      ·subst e;rw [HX.out];omega
      ·exact HW.out j (by omega)
     case measure=>simp [intOf];omega
  ·obtain rfl:k=n:=by omega
   by_cases h0:k=0
   ·subst h0;have HF:=hide (zfn Z (by have:=HL.out;omega) (fun j hj=>HW.out j (by have:=HL.out;omega)) (Or.inl HL));go_wp2;go_ret;exact ⟨zt HF.symm,Below.refl _ _⟩
   ·have gL:((k:Int) == 0)=false:=by simpa using h0
    obtain ⟨ad,rfl,ca⟩:=HS.at (k - 1) (by omega);obtain ⟨z,HX⟩:∃ z,Hid (Z.getD (k - 1) 0=z):=⟨_,rfl⟩;rw [HX.out] at ca
    have hi:((k:Int) - 1).toNat=k - 1:=by omega
    have hA:(1:Int) <= k:=by omega
    by_cases hz:z=0
    ·have HF:=hide (zd0 Z (by have:=HL.out;omega) (by rw [HL.out,HX.out];exact hz))
     have FS:(z != 0)=false:=by simp [hz]
     clear hz;go_wp2;go_ret;exact ⟨zt HF.symm,Below.refl _ _⟩
    ·have HF:=hide (zfn Z (by have:=HL.out;omega) (fun j hj=>HW.out j (by have:=HL.out;omega)) (Or.inr (by rw [HL.out,HX.out];exact hz)))
     have FS:(z != 0)=true:=by simp [hz]
     clear hz;go_wp2;go_ret;exact ⟨zt HF.symm,Below.refl _ _⟩
end Go.Proofs.YtjffpimfngdggaaGreat.V
