/- PSm PNa PNo VKc -/
import Derived.Test.YtjffpimfngdggaaGreatTk
import Derived.Test.YtjffpimfngdggaaGreatFs06
import Derived.Laws.StructEq
import Derived.Test.YtjffpimfngdggaaGreatFs03
import Derived.Test.YtjffpimfngdggaaGreatFs00
set_option maxRecDepth 100000
set_option maxHeartbeats 4000000
namespace Go.Proofs.YtjffpimfngdggaaGreat
section
open Go.RowKit
attribute [local go_sem ↓] zr zq ji
attribute [local go_sem] zE zi qq zk
def eqS (x y:Sn):Bool:=x.rep == y.rep && x.lo == y.lo && x.hi == y.hi
theorem zcb (x y:Sn):eqS x y=true↔x=y:=by
 obtain ⟨a,b,c⟩:=x;obtain ⟨a',b',c'⟩:=y;simp [eqS,and_assoc]
theorem zbO (x y:Sn) (w:World):(Op.equalIn 10000 104 (.agg (SC x)) (.agg (SC y))).run Tryz.prog w = .ok (eqS x y) w:=by
 have u3:=Tryz.underlying3;have a3:=Tryz.isAgg3;have z3:=Tryz.sizeOf3
 have hS:Tryz.prog.underlying 104=some (.struct (Tryz.prog.fieldsOf 104)):=by kernel_rfl
 have hp:Tryz.prog.stoodInHeld 104=false:=by kernel_rfl
 obtain ⟨a,b,c⟩:=x;obtain ⟨a',b',c'⟩:=y
 show (Op.equalIn 10000 104 (.agg #[.int .i64 a,.int .i64 b,.int .i64 c]) (.agg #[.int .i64 a',.int .i64 b',.int .i64 c'])).run Tryz.prog w = .ok (a == a' && b == b' && c == c') w
 rw [show (10000:Nat)=9999+1 from rfl,run_equalIn_struct w 9999 104 _ _ hS hp];simp only [Program.fieldsOf,Tryz.underlying104];have h3:∀ (p q:Int) w,(Op.equalIn 9999 3 (.int .i64 p) (.int .i64 q)).run Tryz.prog w = .ok (p == q) w:=fun p q w=>run_equalIn_int w 9998 3 .i64 .i64 p q Tryz.underlying3;obtain ⟨D,hD⟩:∃ D,9999=D:=⟨9999,rfl⟩;rw [hD] at h3 ⊢;go_simp;by_cases e1:a=a'
 ·by_cases e2:b=b'
  ·by_cases e3:c=c'
   ·simp [e1,e2,e3]
   ·simp [e1,e2,e3]
  ·simp [e1,e2]
 ·simp [e1]
attribute [local go_sem ↓] zbO
theorem j0 (l:List Sn) (k:Nat) (h:k < l.length):l.take (k+1)=l.take k++[l.getD k sn0]:=by
 rw [List.take_succ_eq_append_getElem h];simp [List.getD,h]
theorem j4 (l:List Int) (k:Nat) (h:k < l.length):l.take (k+1)=l.take k++[l.getD k 0]:=by
 rw [List.take_succ_eq_append_getElem h];simp [List.getD,h]
def GivesB (w w':World) (e:Ending) (P:Prop):Prop:=∃ x,e = .returned (.bool x)/\(x=true↔P)/\Below w.heap.size w w'
theorem vw {w:World} {ao:Option Addr} {n c:Nat} {Z:List Int} (S:V.Src w ao n c Z) (k:Nat) (h:k < n):∃ ad,ao=some ad/\w.cell? (ad.add k)=some (.int .i64 (Z.getD k 0)):=by
 cases ao with
 | none=>have:=S.2.1 rfl;omega
 | some ad=>exact ⟨ad,rfl,S.2.2 ad rfl k h⟩

theorem xe (a b:Pv) (w:World) (hA:PSrc w a) (hB:PSrc w b) :
  Calls Tryz.prog 29 #[PV a,PV b] w fun e w'=>GivesB w w' e (a.P=b.P):=by
 have b1:=ze w (.cells (PC a) 26);have b2:=ze (w.alloc (.cells (PC a) 26)) (.cells (PC b) 26);have p2:=zm (w.alloc (.cells (PC a) 26)) b;rw [World.size_alloc] at p2;have HPA:=hide ((zm w a).below b2);have HPB:=hide p2;have HBK:=hide (b1.trans (b2.mono b1.size));have HSA:=hide (hA.below HBK.out);have HSB:=hide (hB.below HBK.out);obtain ⟨wk,hwk⟩:∃ wk,(w.alloc (.cells (PC a) 26)).alloc (.cells (PC b) 26)=wk:=⟨_,rfl⟩;rw [hwk] at HPA HPB HBK HSA HSB;obtain ⟨a0,a1⟩:=HPA.out.nums;obtain ⟨c0,c1⟩:=HPB.out.nums;have HVA:=hide HSA.out.vec;have HVB:=hide HSB.out.vec;have HCA:=hide HSA.out.cloud;have HCB:=hide HSB.out.cloud;have g1:=hA.big;have g2:=hA.cloud.big;have g3:=hB.big;have g4:=hB.cloud.big;clear b1 b2 p2 hA hB HSA HSB;obtain ⟨avo,avn,avc,aco,acn,acc,aP⟩:=a;obtain ⟨bvo,bvn,bvc,bco,bcn,bcc,bP⟩:=b
 dsimp only at a0 a1 c0 c1 HVA HVB HCA HCB g1 g2 g3 g4 ⊢;have HLA:Hid (aP.vec.length=avn):=HVA.out.1;have HLB:Hid (bP.vec.length=bvn):=HVB.out.1;have HKA:=hide HCA.out.len;have HKB:=hide HCB.out.len;by_cases hv:avn=bvn
 ·by_cases hc:acn=bcn
  ·subst hv hc;go_enter Tryz.func29,Tryz.ntmps29;go_wp2_with fail;clear hwk;go_loopw [5] (fun i wr=>∃ k:Nat,k <= avn/\i = .int .i64 k/\Hid (aP.vec.take k=bP.vec.take k)/\Hid (Below wk.heap.size wk wr)) (fun i _=>avn - (intOf i).toNat)
   case atStart=>exact ⟨0,Nat.zero_le _,rfl,rfl,Below.refl _ _⟩
   case round =>
    obtain ⟨k,hk,rfl,HT,HB⟩:=hrel
    rename World=>w6
    have a0':=(HB.out.cell (World.block_lt_of_cell? _ _ a0)).trans a0;have c0':=(HB.out.cell (World.block_lt_of_cell? _ _ c0)).trans c0;by_cases hlt:k < avn
    ·obtain ⟨ad,rfl,q1⟩:=vw (HVA.out.below HB.out) k hlt;obtain ⟨bd,rfl,q2⟩:=vw (HVB.out.below HB.out) k hlt;have t1:=hide (j4 aP.vec k (by rw [HLA.out];exact hlt));have t2:=hide (j4 bP.vec k (by rw [HLB.out];exact hlt));obtain ⟨x,Hx⟩:∃ x,Hid (aP.vec.getD k 0=x):=⟨_,rfl⟩;obtain ⟨y,Hy⟩:∃ y,Hid (bP.vec.getD k 0=y):=⟨_,rfl⟩;rw [Hx.out] at q1 t1;rw [Hy.out] at q2 t2;have r1:=cell_regrown a0';have r2:=cell_regrown c0';have r3:=cell_regrown q1;have r4:=cell_regrown q2;clear q1 q2;by_cases he:x=y
     ·have HE:=hide he
      have he':(x != y)=false:=by simp [he]
      clear he;go_wp2_with fail;refine wp_region_quiet_below (by kernel_rfl) (by kernel_rfl) ?_
      repeat (with_reducible (refine wpQuiet_step ?_);intro K hK;go_simp;(try rw [if_neg (by unfold undef;simp)]);first | (with_reducible (refine hK _ ?_);clear hK K) | (apply Exists.intro;refine ⟨fun _=>?_,hK _ ?_⟩;(fail);clear hK K))
      with_reducible (refine wpQuiet_nil ?_)
      intro w7 hw';obtain ⟨⟨dq,osq⟩,hw''⟩:=hw'
      have b7:Below w6.heap.size w6 w7:=by rw [hw''];exact below_regrown w6 dq osq
      have HB7:=wTr HB b7;clear hw'' dq osq b7;clear r1 r2 r3 r4;go_wp2_with fail;go_roundw
      case rel=>exact ⟨k+1,by omega,by go_num,by show _=_;rw [t1.out,t2.out,HT.out,HE.out],HB7.out⟩
      case measure=>simp [intOf];omega
     ·have he':(x != y)=true:=by simp [he]
      have HNO:Hid (¬ aP=bP):=fun h=>he (by rw [<- Hx.out,<- Hy.out,h]);clear he;go_wp2_with fail;refine wp_region_quiet_below (by kernel_rfl) (by kernel_rfl) ?_
      repeat (with_reducible (refine wpQuiet_step ?_);intro K hK;go_simp;(try rw [if_neg (by unfold undef;simp)]);first | (with_reducible (refine hK _ ?_);clear hK K) | (apply Exists.intro;refine ⟨fun _=>?_,hK _ ?_⟩;(fail);clear hK K))
      with_reducible (refine wpQuiet_nil ?_)
      intro w7 hw';obtain ⟨⟨dq,osq⟩,hw''⟩:=hw'
      have b7:Below w6.heap.size w6 w7:=by rw [hw''];exact below_regrown w6 dq osq
      have HB7:=wTr HB b7;clear hw'' dq osq b7;clear r1 r2 r3 r4;have HBE:=wTr HBK HB7.out;go_wp2_with fail;go_ret;exact ⟨false,rfl,⟨(fun h=>by cases h),fun h=>absurd h HNO.out⟩,HBE.out⟩
    ·obtain rfl:k=avn:=by omega
     have HVE:Hid (aP.vec=bP.vec):=by
      show _=_
      have h:=HT.out;rw [List.take_of_length_le (by rw [HLA.out];exact Nat.le_refl _),List.take_of_length_le (by rw [HLB.out];exact Nat.le_refl _)] at h;exact h
     go_wp2_with fail;go_loopw [6] (fun i wr=>∃ k:Nat,k <= acn/\i = .int .i64 k/\Hid (aP.cloud.take k=bP.cloud.take k)/\Hid (Below wk.heap.size wk wr)) (fun i _=>acn - (intOf i).toNat)
     case atStart=>exact ⟨0,Nat.zero_le _,rfl,rfl,HB.out⟩
     case round =>
      obtain ⟨j,hj,rfl,HT,HB⟩:=hrel
      rename World=>w6
      have a1':=(HB.out.cell (World.block_lt_of_cell? _ _ a1)).trans a1;have c1':=(HB.out.cell (World.block_lt_of_cell? _ _ c1)).trans c1;by_cases hlt:j < acn
      ·obtain ⟨ad,rfl,q1⟩:=(HCA.out.below HB.out).at j hlt;obtain ⟨bd,rfl,q2⟩:=(HCB.out.below HB.out).at j hlt;have t1:=hide (j0 aP.cloud j (by rw [HKA.out];exact hlt));have t2:=hide (j0 bP.cloud j (by rw [HKB.out];exact hlt));obtain ⟨x,Hx⟩:∃ x,Hid (aP.cloud.getD j sn0=x):=⟨_,rfl⟩;obtain ⟨y,Hy⟩:∃ y,Hid (bP.cloud.getD j sn0=y):=⟨_,rfl⟩;rw [Hx.out] at q1 t1;rw [Hy.out] at q2 t2;have r1:=cell_regrown a1';have r2:=cell_regrown c1';have r3:∀ d os,(ldS (.pointer (some (ad.add (j * 3))))).run Tryz.prog (Sort.grow (redrawn w6 d) os) = .ok (SV x) (Sort.grow (redrawn w6 d) os):=fun d os=>ql (q1.on (below_regrown w6 d os));have r4:∀ d os,(ldS (.pointer (some (bd.add (j * 3))))).run Tryz.prog (Sort.grow (redrawn w6 d) os) = .ok (SV y) (Sort.grow (redrawn w6 d) os):=fun d os=>ql (q2.on (below_regrown w6 d os));clear q1 q2
       obtain ⟨z,hz⟩:∃ z,eqS x y=z:=⟨_,rfl⟩
       have HZ:Hid (z=true↔x=y):=by rw [<- hz];exact zcb x y
       cases z with
       | true =>
        have HXY:=hide (HZ.out.1 rfl);clear HZ;go_wp2_with fail;refine wp_region_quiet_below (by kernel_rfl) (by kernel_rfl) ?_
        repeat (with_reducible (refine wpQuiet_step ?_);intro K hK;go_simp;(try rw [if_neg (by unfold undef;simp)]);first | (with_reducible (refine hK _ ?_);clear hK K) | (apply Exists.intro;refine ⟨fun _=>?_,hK _ ?_⟩;(fail);clear hK K))
        with_reducible (refine wpQuiet_nil ?_)
        intro w7 hw';obtain ⟨⟨dq,osq⟩,hw''⟩:=hw'
        have b7:Below w6.heap.size w6 w7:=by rw [hw''];exact below_regrown w6 dq osq
        have HB7:=wTr HB b7;clear hw'' dq osq b7;clear r1 r2 r3 r4;go_wp2_with fail;go_roundw
        case rel=>exact ⟨j+1,by omega,by go_num,by show _=_;rw [t1.out,t2.out,HT.out,HXY.out],HB7.out⟩
        case measure=>simp [intOf];omega
       | false =>
        have HNO:Hid (¬ aP=bP):=fun h=>by
         have:=HZ.out.2 (by rw [<- Hx.out,<- Hy.out,h])
         cases this
        go_wp2_with fail;refine wp_region_quiet_below (by kernel_rfl) (by kernel_rfl) ?_
        repeat (with_reducible (refine wpQuiet_step ?_);intro K hK;go_simp;(try rw [if_neg (by unfold undef;simp)]);first | (with_reducible (refine hK _ ?_);clear hK K) | (apply Exists.intro;refine ⟨fun _=>?_,hK _ ?_⟩;(fail);clear hK K))
        with_reducible (refine wpQuiet_nil ?_)
        intro w7 hw';obtain ⟨⟨dq,osq⟩,hw''⟩:=hw'
        have b7:Below w6.heap.size w6 w7:=by rw [hw''];exact below_regrown w6 dq osq
        have HB7:=wTr HB b7;clear hw'' dq osq b7;clear r1 r2 r3 r4;have HBE:=wTr HBK HB7.out;go_wp2_with fail;go_ret;exact ⟨false,rfl,⟨(fun h=>by cases h),fun h=>absurd h HNO.out⟩,HBE.out⟩
      ·obtain rfl:j=acn:=by omega
       have HCE:Hid (aP.cloud=bP.cloud):=by
        show _=_
        have h:=HT.out;rw [List.take_of_length_le (by rw [HKA.out];exact Nat.le_refl _),List.take_of_length_le (by rw [HKB.out];exact Nat.le_refl _)] at h;exact h
       have HBE:=wTr HBK HB.out;go_wp2_with fail;go_ret;exact ⟨true,rfl,⟨fun _=>by obtain ⟨v1,c1⟩:=aP;obtain ⟨v2,c2⟩:=bP;have e1:v1=v2:=HVE.out;have e2:c1=c2:=HCE.out;rw [e1,e2],fun _=>rfl⟩,HBE.out⟩
  ·have d1:((avn:Int) != (bvn:Int))=false:=by simp [hv]
   have d2:((acn:Int) != (bcn:Int))=true:=by simp;omega
   have HNO:Hid (¬ aP=bP):=fun h=>hc (by rw [<- HKA.out,<- HKB.out,h]);clear hv hc;go_enter Tryz.func29,Tryz.ntmps29;go_wp2_with fail;go_ret;exact ⟨false,rfl,⟨(fun h=>by cases h),fun h=>absurd h HNO.out⟩,HBK.out⟩
 ·have d1:((avn:Int) != (bvn:Int))=true:=by simp;omega
  have HNO:Hid (¬ aP=bP):=fun h=>hv (by rw [<- HLA.out,<- HLB.out,h]);clear hv;go_enter Tryz.func29,Tryz.ntmps29;go_wp2_with fail;go_ret;exact ⟨false,rfl,⟨(fun h=>by cases h),fun h=>absurd h HNO.out⟩,HBK.out⟩
end
section
open Go.RowKit

structure StepOk (Z:List Int) (a c:Sn):Prop where
 isr:V.isR c.rep=true
 rep:a.rep <= c.rep
 lead:V.atI Z c.rep+2 <= c.lo
 gap:c.rep=a.rep -> a.hi+2 <= c.lo
 ord:c.lo <= c.hi
 top:c.hi <= 1000000000
def chain (Z:List Int):Sn -> List Sn -> Prop
 | _,[]=>True
 | a,c :: t=>StepOk Z a c/\chain Z c t
def lastS:Sn -> List Sn -> Sn
 | a,[]=>a
 | _,c :: t=>lastS c t
theorem vV (a:Sn) (L M:List Sn):lastS a (L++M)=lastS (lastS a L) M:=by
 induction L generalizing a with
 | nil=>rfl
 | cons c t ih=>exact ih c
theorem yY (a c:Sn) (L:List Sn):lastS a (L++[c])=c:=by rw [vV];rfl
theorem jW (Z:List Int) (a:Sn) (L M:List Sn):chain Z a (L++M)↔chain Z a L/\chain Z (lastS a L) M:=by
 induction L generalizing a with
 | nil=>simp [chain,lastS]
 | cons c t ih =>
  show StepOk Z a c/\chain Z c (t++M)↔(StepOk Z a c/\chain Z c t)/\chain Z (lastS c t) M
  rw [ih c,and_assoc]
theorem vP (Z:List Int) (a c:Sn) (L:List Sn):chain Z a (L++[c])↔chain Z a L/\StepOk Z (lastS a L) c:=by
 rw [jW];simp [chain]
end
section
open Go.RowKit

theorem ze3 {k:Nat} (h:k < 16):V.isR (k:Int)=true:=by simp [V.isR];omega
theorem zfC (Z:List Int) {k:Nat} (h:k < 16):V.atI Z (k:Int)=V.at' Z k:=by unfold V.atI;rw [if_pos (ze3 h),Int.toNat_natCast]
theorem zbt (Z:List Int) (k:Nat) (hk:k < 16):∀ (L:List Rn) (a:Sn) (l:Int),a.rep <= (k:Int) -> V.at' Z k+2 <= l -> (a.rep=(k:Int) -> a.hi+2 <= l) -> form l L -> chain Z a (tag k L)
 | [],_,_,_,_,_,_=>trivial
 | r :: t,a,l,ha,hl,hg,h=>by
  have h1:=h.1;have h2:=h.2.1;have h3:=h.2.2.1;refine ⟨⟨ze3 hk,ha,?_,fun e=>?_,h2,h3⟩,zbt Z k hk t _ (r.hi+2) (Int.le_refl _) ?_ (fun _=>Int.le_refl _) h.2.2.2⟩
  ·show V.atI Z (k:Int)+2 <= r.lo
   rw [zfC Z hk];omega
  ·have:=hg e.symm
   show a.hi+2 <= r.lo
   omega
  ·omega
theorem zcV (a:Sn) (k:Nat):∀ (L:List Rn),L=[]∨(lastS a (tag k L)).rep=(k:Int)
 | []=>Or.inl rfl
 | r :: t=>by
  right;rcases zcV ⟨(k:Int),r.lo,r.hi⟩ k t with h | h
  ·subst h;rfl
  ·exact h
theorem zfa {X:List Rn} (h:form 1 X):form (leadOf X+2) (restOf X):=by
 cases X with
 | nil=>trivial
 | cons r t =>
  by_cases e:r.lo=1
  ·simp only [leadOf,restOf,if_pos e];exact h.2.2.2
  ·simp only [leadOf,restOf,if_neg e];have:=h.1;exact ⟨by omega,h.2⟩
theorem vY {N:Nat -> List Rn} {Z:List Int} (hN:∀ r,r < 16 -> form 1 (N r)) (hZ:∀ r,r < 16 -> V.at' Z r=leadOf (N r)):∀ k,k <= 16 -> chain Z sn0 (cloudN N k)/\(cloudN N k=[]∨(lastS sn0 (cloudN N k)).rep < (k:Int))
 | 0,_=>⟨trivial,Or.inl rfl⟩
 | k+1,hk=>by
  obtain ⟨h1,h2⟩:=vY hN hZ k (by omega);have hb:=jQ (hN k (by omega));rw [cloudN,jW,vV];refine ⟨⟨h1,zbt Z k (by omega) _ _ (leadOf (N k)+2) ?_ (by rw [hZ k (by omega)];exact Int.le_refl _) (fun e=>?_) (zfa (hN k (by omega)))⟩,?_⟩
  ·rcases h2 with h | h
   ·rw [h];show (0:Int) <= _;omega
   ·omega
  ·rcases h2 with h | h
   ·rw [h];show (0:Int)+2 <= _;omega
   ·omega
  ·rcases zcV (lastS sn0 (cloudN N k)) k (restOf (N k)) with h | h
   ·rcases h2 with g | g
    ·left;rw [g,h];rfl
    ·right;rw [h];show (lastS sn0 (cloudN N k)).rep < _;omega
   ·right;rw [h];omega
def catT (G:Nat -> List Rn):Nat -> List Sn
 | 0=>[]
 | k+1=>catT G k++tag k (G k)
theorem bg (N:Nat -> List Rn):∀ k,cloudN N k=catT (fun r=>restOf (N r)) k
 | 0=>rfl
 | k+1=>by rw [cloudN,catT,bg N k]
theorem kd {G G':Nat -> List Rn}:∀ k,(∀ r,r < k -> G r=G' r) -> catT G k=catT G' k
 | 0,_=>rfl
 | k+1,h=>by rw [catT,catT,kd k (fun r hr=>h r (by omega)),h k (by omega)]
theorem zbw (G:Nat -> List Rn) (q:Nat) (x:Rn) (hG:∀ r,q < r -> G r=[]):∀ k,catT (fun r=>if r=q then G r++[x] else G r) k=catT G k++(if q < k then [⟨(q:Int),x.lo,x.hi⟩] else [])
 | 0=>by simp [catT]
 | k+1=>by
  rw [catT,catT,zbw G q x hG k];by_cases h:k=q
  ·subst h;simp [tag]
  ·by_cases h':q < k
   ·simp [h,h',hG k h',show q < k+1 by omega,tag]
   ·simp [h,h',show ¬ q < k+1 by omega]
theorem zdL {acc:List Rn} {r:Rn} {l:Int} (h:form l acc) (hg:∀ i x,acc=i++[x] -> x.hi+2 <= r.lo) (h1:l <= r.lo) (h2:r.lo <= r.hi) (h3:r.hi <= 1000000000):form l (acc++[r]):=by
 rcases List.eq_nil_or_concat acc with e | ⟨i,x,e⟩
 ·subst e;exact ⟨h1,h2,h3,trivial⟩
 ·rw [List.concat_eq_append] at e;subst e;exact kZ h (hg i x rfl) h2 h3
theorem zbu (Z:List Int):∀ (n:Nat) (L:List Sn),L.length=n -> chain Z sn0 L -> L=catT (cloudPart L) 16/\(∀ r,r < 16 -> form (V.at' Z r+2) (cloudPart L r))/\(∀ r:Nat,(lastS sn0 L).rep < (r:Int) -> cloudPart L r=[])/\(∀ (q:Nat) i x,(q:Int)=(lastS sn0 L).rep -> cloudPart L q=i++[x] -> x.hi=(lastS sn0 L).hi)
 | 0,L,hn,_=>by
  obtain rfl:=List.eq_nil_of_length_eq_zero hn
  have e:∀ r,cloudPart [] r=[]:=fun r=>by simp [cloudPart]
  refine ⟨?_,fun r _=>by rw [e];trivial,fun r _=>e r,fun q i x _ h=>by rw [e] at h;simp at h⟩;rw [kd (G':=fun _=>[]) 16 (fun r _=>e r)];rfl
 | n+1,L,hn,h=>by
  rcases List.eq_nil_or_concat L with e | ⟨M,c,e⟩
  ·subst e;simp at hn
  ·rw [List.concat_eq_append] at e;subst e;rw [vP] at h;obtain ⟨i1,i2,i3,i4⟩:=zbu Z n M (by simpa using hn) h.1;have S:=h.2
   obtain ⟨q,hq,hq16⟩:∃ q:Nat,c.rep=(q:Int)/\q < 16:=by
    have:=S.isr;simp [V.isR] at this;exact ⟨c.rep.toNat,by omega,by omega⟩
   have hp:∀ r,cloudPart (M++[c]) r=if r=q then cloudPart M r++[⟨c.lo,c.hi⟩] else cloudPart M r:=fun r=>by
    rw [jp];by_cases e:r=q
    ·subst e;simp [hq]
    ·have:¬ c.rep=(r:Int):=by rw [hq];omega
     simp [e,this]
   have hlast:(lastS sn0 (M++[c]))=c:=yY _ _ _;refine ⟨?_,fun r hr=>?_,fun r hr=>?_,fun q' i x e1 e2=>?_⟩
   ·rw [kd (G':=fun r=>if r=q then cloudPart M r++[⟨c.lo,c.hi⟩] else cloudPart M r) 16 (fun r _=>hp r),zbw (cloudPart M) q ⟨c.lo,c.hi⟩ (fun r hr=>i3 r (by have:=S.rep;omega)) 16,if_pos hq16,<- i1]
    have hc:c=⟨(q:Int),c.lo,c.hi⟩:=by rw [<- hq]
    exact congrArg (fun x=>M++[x]) hc
   ·rw [hp r];by_cases e:r=q
    ·subst e;rw [if_pos rfl];refine zdL (i2 r hr) (fun i x hx=>?_) ?_ S.ord S.top
     ·by_cases e2:c.rep=(lastS sn0 M).rep
      ·have h1:=i4 r i x (by rw [<- e2,hq]) hx;have h2:=S.gap e2
       show x.hi+2 <= c.lo
       omega
      ·have:=i3 r (by have:=S.rep;omega);rw [this] at hx;simp at hx
     ·have:=S.lead;rw [hq,zfC Z hr] at this;exact this
    ·rw [if_neg e];exact i2 r hr
   ·rw [hlast,hq] at hr;rw [hp r,if_neg (by omega)];exact i3 r (by have:=S.rep;omega)
   ·rw [hlast,hq] at e1
    obtain rfl:q'=q:=by omega
    rw [hp q',if_pos rfl] at e2;have:=List.append_inj' e2 rfl;rw [hlast];have h2:=this.2;simp at h2;rw [<- h2]
def Canon (P:Pst):Prop:=CanonOf (runsAt P) P
theorem kj {P:Pst} (hv:P.vec=V.short (V.at' P.vec)) (hc:chain P.vec sn0 P.cloud):Canon P:=by
 obtain ⟨h1,h2,_,_⟩:=zbu P.vec _ P.cloud rfl hc
 have key:∀ r,r < 16 -> form 1 (runsAt P r)/\leadOf (runsAt P r)=V.at' P.vec r/\restOf (runsAt P r)=cloudPart P.cloud r:=by
  intro r hr;have hb:=V.zdk P.vec r;have hf:=h2 r hr;unfold runsAt vecPart;by_cases h0:0 < V.at' P.vec r
  ·rw [if_pos h0];exact ⟨⟨Int.le_refl _,(show (1:Int) <= V.at' P.vec r by omega),hb.2,hf⟩,rfl,rfl⟩
  ·rw [if_neg h0]
   have e0:V.at' P.vec r=0:=by omega
   rw [e0] at hf ⊢;rw [List.nil_append];refine ⟨jS (by omega) hf,?_⟩
   cases hcp:cloudPart P.cloud r with
   | nil=>exact ⟨rfl,rfl⟩
   | cons x t =>
    rw [hcp] at hf;have:=hf.1
    have hne:¬ x.lo=1:=by omega
    simp [leadOf,restOf,hne]
 refine ⟨runsAt P,fun r hr=>NormOf.self (key r hr).1,?_⟩;unfold canonP;rw [bg,kd (G':=cloudPart P.cloud) 16 (fun r hr=>(key r hr).2.2),<- h1,xU (g:=V.at' P.vec) (fun r hr=>(key r hr).2.1),<- hv]
theorem zhb {N:Nat -> List Rn} (hN:∀ r,r < 16 -> form 1 (N r)) (Z:List Int) (hZ:Z=V.short (fun r=>leadOf (N r))):∀ r,r < 16 -> V.at' Z r=leadOf (N r):=by
 have hf:∀ r,r < 16 -> 0 <= leadOf (N r)/\leadOf (N r) <= 1000000000:=fun r hr=>jQ (hN r hr);intro r hr;rw [hZ];exact zdj hf r hr
theorem zha {N:Nat -> List Rn} (Z:List Int) (hZ:Z=V.short (fun r=>leadOf (N r))) (hz:∀ r,r < 16 -> V.at' Z r=leadOf (N r)):Z=V.short (V.at' Z):=by
 rw [xU hz];exact hZ
theorem zdZ (N:Nat -> List Rn):(canonP N).vec=V.short (fun r=>leadOf (N r)):=rfl
theorem zby (N:Nat -> List Rn):(canonP N).cloud=cloudN N 16:=rfl
theorem zhc {N:Nat -> List Rn} (hN:∀ r,r < 16 -> form 1 (N r)) (Z:List Int) (hz:∀ r,r < 16 -> V.at' Z r=leadOf (N r)) (k:Nat) (hk:k <= 16) (L:List Sn) (hL:L=cloudN N k):chain Z sn0 L:=by
 rw [hL];exact (vY hN hz k hk).1
theorem ki {P:Pst} {G:Nat -> List Rn} (h:CanonOf G P):P.vec=V.short (V.at' P.vec)/\chain P.vec sn0 P.cloud:=by
 obtain ⟨N,hN,e⟩:=h
 have e1:P.vec=V.short (fun r=>leadOf (N r)):=by rw [e,zdZ]
 have e2:P.cloud=cloudN N 16:=by rw [e,zby]
 have hN':∀ r,r < 16 -> form 1 (N r):=fun r hr=>(hN r hr).1;have hz:=zhb hN' P.vec e1;exact And.intro (zha P.vec e1 hz) (zhc hN' P.vec hz 16 (Nat.le_refl _) P.cloud e2)
theorem zP {P:Pst}:Canon P↔P.vec=V.short (V.at' P.vec)/\chain P.vec sn0 P.cloud:=⟨fun h=>ki h,fun h=>kj h.1 h.2⟩
theorem CanonOf.canon {P:Pst} {G:Nat -> List Rn} (h:CanonOf G P):Canon P:=zP.2 (ki h)
end
end Go.Proofs.YtjffpimfngdggaaGreat
namespace Go.Proofs.YtjffpimfngdggaaGreat.V
open Go.RowKit

theorem zd8 (f:Nat -> Int) (k:Nat):∀ r,topN f k <= r -> r < k -> f r=0:=by
 induction k with
 | zero=>intro r _ h;omega
 | succ k ih =>
  intro r h1 h2;unfold topN at h1
  split at h1
  ·by_cases e:r=k
   ·subst e;assumption
   ·exact ih r h1 (by omega)
  ·omega
theorem zea (f:Nat -> Int) (k:Nat) (h:topN f k≠0):f (topN f k - 1)≠0:=by
 induction k with
 | zero=>simp [topN] at h
 | succ k ih =>
  unfold topN at h ⊢
  split
  ·rename_i e;rw [if_pos e] at h;exact ih h
  ·rename_i e;simpa using e
theorem zcv (f:Nat -> Int) (r:Nat) (h1:top f <= r) (h2:r < 16):f r=0:=zd8 f 16 r h1 h2
theorem zcw (f:Nat -> Int) (h:top f≠0):f (top f - 1)≠0:=zea f 16 h
theorem zdp (f:Nat -> Int) (n:Nat) (h16:n <= 16) (h1:∀ r,n <= r -> r < 16 -> f r=0) (h2:n=0∨f (n - 1)≠0):top f=n:=by
 have a:=vR f;rcases Nat.lt_trichotomy (top f) n with h | h | h
 ·rcases h2 with h2 | h2
  ·omega
  ·exact absurd (zcv f (n - 1) (by omega) (by omega)) h2
 ·exact h
 ·exact absurd (h1 (top f - 1) (by omega) (by omega)) (zcw f (by omega))
theorem wo (f:Nat -> Int) (k:Nat) (h:k < top f):(short f).getD k 0=f k:=by simp [short,List.getD,h]
theorem j6 (f:Nat -> Int) (k:Nat) (h:k < 16):(short f).getD k 0=f k:=by
 by_cases hk:k < top f
 ·exact wo f k hk
 ·rw [zcv f k (by omega) h];simp [short,List.getD,hk]
theorem zg5 {z:Int} (h:0 <= z/\z <= 1000000000):clamp z=z:=by unfold clamp;rw [if_neg (by omega),if_neg (by omega)]
theorem zgl (Z:List Int) (h:16 < Z.length):decide (Z=short (at' Z))=false:=by
 rw [decide_eq_false_iff_not];intro e;have a:=vR (at' Z);have:=congrArg List.length e;rw [zS] at this;omega
theorem zcK (Z:List Int) (k:Nat) (hk:k < Z.length) (h:¬ (0 <= Z.getD k 0/\Z.getD k 0 <= 1000000000)):decide (Z=short (at' Z))=false:=by
 rw [decide_eq_false_iff_not];intro e;apply h;have hl:=congrArg List.length e;rw [zS] at hl;rw [e,wo _ k (by omega)];exact zdk Z k
theorem zdG (Z:List Int) (h0:0 < Z.length) (h:Z.getD (Z.length - 1) 0=0):decide (Z=short (at' Z))=false:=by
 rw [decide_eq_false_iff_not];intro e;have hl:=congrArg List.length e;rw [zS] at hl;have h1:=zcw (at' Z) (by omega);have h2:=wo (at' Z) (top (at' Z) - 1) (by omega);rw [<- e,<- hl] at h2;rw [<- hl,<- h2] at h1;exact h1 h
theorem ze2 (Z:List Int) (h16:Z.length <= 16) (hw:∀ k,k < Z.length -> 0 <= Z.getD k 0/\Z.getD k 0 <= 1000000000) (h0:Z.length=0∨Z.getD (Z.length - 1) 0≠0):decide (Z=short (at' Z))=true:=by
 rw [decide_eq_true_iff]
 have hat:∀ r,r < Z.length -> at' Z r=Z.getD r 0:=fun r hr=>by unfold at';rw [if_pos (by omega)];exact zg5 (hw r hr)
 have ht:top (at' Z)=Z.length:=by
  refine zdp _ _ h16 (fun r h1 h2=>?_) ?_
  ·unfold at';rw [if_pos h2,List.getD,List.getElem?_eq_none h1];rfl
  ·rcases h0 with h | h
   ·exact Or.inl h
   ·by_cases hz:Z.length=0
    ·exact Or.inl hz
    ·exact Or.inr (by rw [hat _ (by omega)];exact h)
 apply List.ext_getElem
 ·rw [zS,ht]
 ·intro i h1 h2;have e1:(short (at' Z)).getD i 0=at' Z i:=wo _ i (by omega);rw [hat i h1] at e1;simp only [List.getD,List.getElem?_eq_getElem h1,List.getElem?_eq_getElem h2,Option.getD_some] at e1;exact e1.symm

theorem Src.at {w:World} {ao:Option Addr} {n c:Nat} {Z:List Int} (S:Src w ao n c Z) (k:Nat) (h:k < n):∃ ad,ao=some ad/\w.cell? (ad.add k)=some (.int .i64 (Z.getD k 0)):=by
 cases ao with
 | none=>have:=S.2.1 rfl;omega
 | some ad=>exact ⟨ad,rfl,S.2.2 ad rfl k h⟩
theorem zdI (ao:Option Addr) (n cap:Nat) (Z:List Int) (w:World) (hS:Src w ao n cap Z) :
  Calls Tryz.prog 113 #[.slice ao n cap] w fun e w'=>e = .returned (.bool (decide (Z=short (at' Z))))/\Below w.heap.size w w':=by
 have HS:=hide hS;have hl:=hS.1;have HL:=hide hl;clear hS;by_cases h16:16 < n
 ·have HF:=hide (zgl Z (by omega))
  have h16':(16:Int) < n:=by omega
  clear hl;go_enter Tryz.func113,Tryz.ntmps113;go_wp2;go_ret;exact ⟨zt HF.out.symm,Below.refl _ _⟩
 have h16':¬ (16:Int) < n:=by omega
 clear hl;go_enter Tryz.func113,Tryz.ntmps113;go_wp2;go_loopw [10] (fun i wr=>∃ k:Nat,k <= n/\i = .int .i64 k/\Hid (∀ j,j < k -> 0 <= Z.getD j 0/\Z.getD j 0 <= 1000000000)/\wr=w) (fun i _=>n - (intOf i).toNat)
 case atStart=>exact ⟨0,Nat.zero_le _,rfl,fun j h=>(by omega),by trivial⟩
 case round =>
  obtain ⟨k,hk,rfl,HW,rfl⟩:=hrel;by_cases hlt:k < n
  ·obtain ⟨ad,rfl,ca⟩:=HS.out.at k hlt;obtain ⟨z,HX⟩:∃ z,Hid (Z.getD k 0=z):=⟨_,rfl⟩;rw [HX.out] at ca;by_cases h1:z < 0
   ·have HF:=hide (zcK Z k (by have:=HL.out;omega) (by rw [HX.out];omega));go_wp2;go_ret;exact ⟨zt HF.out.symm,Below.refl _ _⟩
   ·by_cases h2:1000000000 < z
    ·have HF:=hide (zcK Z k (by have:=HL.out;omega) (by rw [HX.out];omega));go_wp2;go_ret;exact ⟨zt HF.out.symm,Below.refl _ _⟩
    ·go_wp2;go_roundw
     case rel =>
      refine ⟨k+1,by omega,by go_num,fun j hj=>?_,by trivial⟩;by_cases e:j=k
      ·subst e;rw [HX.out];omega
      ·exact HW.out j (by omega)
     case measure=>simp [intOf];omega
  ·obtain rfl:k=n:=by omega
   by_cases h0:k=0
   ·subst h0;have HF:=hide (ze2 Z (by have:=HL.out;omega) (fun j hj=>HW.out j (by have:=HL.out;omega)) (Or.inl HL.out));go_wp2;go_ret;exact ⟨zt HF.out.symm,Below.refl _ _⟩
   ·have hk0:((k:Int) == 0)=false:=by simpa using h0
    obtain ⟨ad,rfl,ca⟩:=HS.out.at (k - 1) (by omega);obtain ⟨z,HX⟩:∃ z,Hid (Z.getD (k - 1) 0=z):=⟨_,rfl⟩;rw [HX.out] at ca
    have hi:((k:Int) - 1).toNat=k - 1:=by omega
    have hA:(1:Int) <= k:=by omega
    by_cases hz:z=0
    ·have HF:=hide (zdG Z (by have:=HL.out;omega) (by rw [HL.out,HX.out];exact hz))
     have hz':(z != 0)=false:=by simp [hz]
     clear hz;go_wp2;go_ret;exact ⟨zt HF.out.symm,Below.refl _ _⟩
    ·have HF:=hide (ze2 Z (by have:=HL.out;omega) (fun j hj=>HW.out j (by have:=HL.out;omega)) (Or.inr (by rw [HL.out,HX.out];exact hz)))
     have hz':(z != 0)=true:=by simp [hz]
     clear hz;go_wp2;go_ret;exact ⟨zt HF.out.symm,Below.refl _ _⟩
end Go.Proofs.YtjffpimfngdggaaGreat.V
