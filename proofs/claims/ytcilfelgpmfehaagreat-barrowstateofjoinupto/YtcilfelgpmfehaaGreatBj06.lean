/- PSm PNa PNo VKc -/
import Derived.Test.YtcilfelgpmfehaaGreatBj03
import Derived.Laws.StructEq
set_option maxHeartbeats 800000
namespace Go.Proofs.YtcilfelgpmfehaaGreat
section
open Go.RowKit
attribute [local go_sem ↓] zl zk qX
attribute [local go_sem] zw zf zW zh
def eqS (x y:Sn):Bool:=x.rep == y.rep && x.lo == y.lo && x.hi == y.hi
theorem xY (x y:Sn):eqS x y=true↔x=y:=by
 obtain ⟨a,b,c⟩:=x;obtain ⟨a',b',c'⟩:=y;simp [eqS,and_assoc]
theorem vJ (x y:Sn) (w:World):(Op.equalIn 10000 69 (.agg (SC x)) (.agg (SC y))).run Tryz.prog w = .ok (eqS x y) w:=by
 have u3:=Tryz.underlying3;have a3:=Tryz.isAgg3;have z3:=Tryz.sizeOf3
 have hS:Tryz.prog.underlying 69=some (.struct (Tryz.prog.fieldsOf 69)):=by kernel_rfl
 have hp:Tryz.prog.stoodInHeld 69=false:=by kernel_rfl
 obtain ⟨a,b,c⟩:=x;obtain ⟨a',b',c'⟩:=y
 show (Op.equalIn 10000 69 (.agg #[.int .i64 a,.int .i64 b,.int .i64 c]) (.agg #[.int .i64 a',.int .i64 b',.int .i64 c'])).run Tryz.prog w = .ok (a == a' && b == b' && c == c') w
 rw [show (10000:Nat)=9999+1 from rfl,run_equalIn_struct w 9999 69 _ _ hS hp];simp only [Program.fieldsOf,Tryz.underlying69];have h3:∀ (p q:Int) w,(Op.equalIn 9999 3 (.int .i64 p) (.int .i64 q)).run Tryz.prog w = .ok (p == q) w:=fun p q w=>run_equalIn_int w 9998 3 .i64 .i64 p q Tryz.underlying3;obtain ⟨D,hD⟩:∃ D,9999=D:=⟨9999,rfl⟩;rw [hD] at h3 ⊢;go_simp;by_cases e1:a=a'
 ·by_cases e2:b=b'
  ·by_cases e3:c=c'
   ·simp [e1,e2,e3]
   ·simp [e1,e2,e3]
  ·simp [e1,e2]
 ·simp [e1]
attribute [local go_sem ↓] vJ
theorem wI (l:List Sn) (k:Nat) (h:k < l.length):l.take (k+1)=l.take k++[l.getD k sn0]:=by
 rw [List.take_succ_eq_append_getElem h];simp [List.getD,h]
theorem wK (l:List Int) (k:Nat) (h:k < l.length):l.take (k+1)=l.take k++[l.getD k 0]:=by
 rw [List.take_succ_eq_append_getElem h];simp [List.getD,h]
def eO (w w':World) (e:Ending) (P:Prop):Prop:=∃ x,e = .returned (.bool x)/\(x=true↔P)/\Below w.heap.size w w'
theorem qT {w:World} {ao:Option Addr} {n c:Nat} {Z:List Int} (S:V.Src w ao n c Z) (k:Nat) (h:k < n):∃ ad,ao=some ad/\w.cell? (ad.add k)=some (.int .i64 (Z.getD k 0)):=by
 cases ao with
 | none=>have:=S.2.1 rfl;omega
 | some ad=>exact ⟨ad,rfl,S.2.2 ad rfl k h⟩

end
section
open Go.RowKit

structure dI (Z:List Int) (a c:Sn):Prop where
 isr:V.isR c.rep=true
 rep:a.rep <= c.rep
 lead:V.atI Z c.rep+2 <= c.lo
 gap:c.rep=a.rep -> a.hi+2 <= c.lo
 ord:c.lo <= c.hi
 top:c.hi <= 1000000000
def chain (Z:List Int):Sn -> List Sn -> Prop
 | _,[]=>True
 | a,c :: t=>dI Z a c/\chain Z c t
def aX:Sn -> List Sn -> Sn
 | a,[]=>a
 | _,c :: t=>aX c t
theorem kQ (a:Sn) (L M:List Sn):aX a (L++M)=aX (aX a L) M:=by
 induction L generalizing a with
 | nil=>rfl
 | cons c t ih=>exact ih c
theorem kF (a c:Sn) (L:List Sn):aX a (L++[c])=c:=by rw [kQ];rfl
theorem jA (Z:List Int) (a:Sn) (L M:List Sn):chain Z a (L++M)↔chain Z a L/\chain Z (aX a L) M:=by
 induction L generalizing a with
 | nil=>simp [chain,aX]
 | cons c t ih =>
  show dI Z a c/\chain Z c (t++M)↔(dI Z a c/\chain Z c t)/\chain Z (aX c t) M
  rw [ih c,and_assoc]
theorem x9 (Z:List Int) (a c:Sn) (L:List Sn):chain Z a (L++[c])↔chain Z a L/\dI Z (aX a L) c:=by
 rw [jA];simp [chain]
end
section
open Go.RowKit

theorem zdi {k:Nat} (h:k < 16):V.isR (k:Int)=true:=by simp [V.isR];omega
theorem za3 (Z:List Int) {k:Nat} (h:k < 16):V.atI Z (k:Int)=V.at' Z k:=by unfold V.atI;rw [if_pos (zdi h),Int.toNat_natCast]
theorem zan (Z:List Int) (k:Nat) (hk:k < 16):∀ (L:List Rn) (a:Sn) (l:Int),a.rep <= (k:Int) -> V.at' Z k+2 <= l -> (a.rep=(k:Int) -> a.hi+2 <= l) -> form l L -> chain Z a (tag k L)
 | [],_,_,_,_,_,_=>trivial
 | r :: t,a,l,ha,hl,hg,h=>by
  have h1:=h.1;have h2:=h.2.1;have h3:=h.2.2.1;refine ⟨⟨zdi hk,ha,?_,fun e=>?_,h2,h3⟩,zan Z k hk t _ (r.hi+2) (Int.le_refl _) ?_ (fun _=>Int.le_refl _) h.2.2.2⟩
  ·show V.atI Z (k:Int)+2 <= r.lo
   rw [za3 Z hk];omega
  ·have:=hg e.symm
   show a.hi+2 <= r.lo
   omega
  ·omega
theorem zby (a:Sn) (k:Nat):∀ (L:List Rn),L=[]∨(aX a (tag k L)).rep=(k:Int)
 | []=>Or.inl rfl
 | r :: t=>by
  right;rcases zby ⟨(k:Int),r.lo,r.hi⟩ k t with h | h
  ·subst h;rfl
  ·exact h
theorem zdp {X:List Rn} (h:form 1 X):form (aG X+2) (cC X):=by
 cases X with
 | nil=>trivial
 | cons r t =>
  by_cases e:r.lo=1
  ·simp only [aG,cC,if_pos e];exact h.2.2.2
  ·simp only [aG,cC,if_neg e];have:=h.1;exact ⟨by omega,h.2⟩
theorem kU {N:Nat -> List Rn} {Z:List Int} (hN:∀ r,r < 16 -> form 1 (N r)) (hZ:∀ r,r < 16 -> V.at' Z r=aG (N r)):∀ k,k <= 16 -> chain Z sn0 (aO N k)/\(aO N k=[]∨(aX sn0 (aO N k)).rep < (k:Int))
 | 0,_=>⟨trivial,Or.inl rfl⟩
 | k+1,hk=>by
  obtain ⟨h1,h2⟩:=kU hN hZ k (by omega);have hb:=ju (hN k (by omega));rw [aO,jA,kQ];refine ⟨⟨h1,zan Z k (by omega) _ _ (aG (N k)+2) ?_ (by rw [hZ k (by omega)];exact Int.le_refl _) (fun e=>?_) (zdp (hN k (by omega)))⟩,?_⟩
  ·rcases h2 with h | h
   ·rw [h];show (0:Int) <= _;omega
   ·omega
  ·rcases h2 with h | h
   ·rw [h];show (0:Int)+2 <= _;omega
   ·omega
  ·rcases zby (aX sn0 (aO N k)) k (cC (N k)) with h | h
   ·rcases h2 with g | g
    ·left;rw [g,h];rfl
    ·right;rw [h];show (aX sn0 (aO N k)).rep < _;omega
   ·right;rw [h];omega
def gF (G:Nat -> List Rn):Nat -> List Sn
 | 0=>[]
 | k+1=>gF G k++tag k (G k)
theorem yk (N:Nat -> List Rn):∀ k,aO N k=gF (fun r=>cC (N r)) k
 | 0=>rfl
 | k+1=>by rw [aO,gF,yk N k]
theorem jS {G G':Nat -> List Rn}:∀ k,(∀ r,r < k -> G r=G' r) -> gF G k=gF G' k
 | 0,_=>rfl
 | k+1,h=>by rw [gF,gF,jS k (fun r hr=>h r (by omega)),h k (by omega)]
theorem zaq (G:Nat -> List Rn) (q:Nat) (x:Rn) (hG:∀ r,q < r -> G r=[]):∀ k,gF (fun r=>if r=q then G r++[x] else G r) k=gF G k++(if q < k then [⟨(q:Int),x.lo,x.hi⟩] else [])
 | 0=>by simp [gF]
 | k+1=>by
  rw [gF,gF,zaq G q x hG k];by_cases h:k=q
  ·subst h;simp [tag]
  ·by_cases h':q < k
   ·simp [h,h',hG k h',show q < k+1 by omega,tag]
   ·simp [h,h',show ¬ q < k+1 by omega]
theorem zcc {acc:List Rn} {r:Rn} {l:Int} (h:form l acc) (hg:∀ i x,acc=i++[x] -> x.hi+2 <= r.lo) (h1:l <= r.lo) (h2:r.lo <= r.hi) (h3:r.hi <= 1000000000):form l (acc++[r]):=by
 rcases List.eq_nil_or_concat acc with e | ⟨i,x,e⟩
 ·subst e;exact ⟨h1,h2,h3,trivial⟩
 ·rw [List.concat_eq_append] at e;subst e;exact kp h (hg i x rfl) h2 h3
theorem zao (Z:List Int):∀ (n:Nat) (L:List Sn),L.length=n -> chain Z sn0 L -> L=gF (ag L) 16/\(∀ r,r < 16 -> form (V.at' Z r+2) (ag L r))/\(∀ r:Nat,(aX sn0 L).rep < (r:Int) -> ag L r=[])/\(∀ (q:Nat) i x,(q:Int)=(aX sn0 L).rep -> ag L q=i++[x] -> x.hi=(aX sn0 L).hi)
 | 0,L,hn,_=>by
  obtain rfl:=List.eq_nil_of_length_eq_zero hn
  have e:∀ r,ag [] r=[]:=fun r=>by simp [ag]
  refine ⟨?_,fun r _=>by rw [e];trivial,fun r _=>e r,fun q i x _ h=>by rw [e] at h;simp at h⟩;rw [jS (G':=fun _=>[]) 16 (fun r _=>e r)];rfl
 | n+1,L,hn,h=>by
  rcases List.eq_nil_or_concat L with e | ⟨M,c,e⟩
  ·subst e;simp at hn
  ·rw [List.concat_eq_append] at e;subst e;rw [x9] at h;obtain ⟨i1,i2,i3,i4⟩:=zao Z n M (by simpa using hn) h.1;have S:=h.2
   obtain ⟨q,hq,Fv⟩:∃ q:Nat,c.rep=(q:Int)/\q < 16:=by
    have:=S.isr;simp [V.isR] at this;exact ⟨c.rep.toNat,by omega,by omega⟩
   have hp:∀ r,ag (M++[c]) r=if r=q then ag M r++[⟨c.lo,c.hi⟩] else ag M r:=fun r=>by
    rw [xZ];by_cases e:r=q
    ·subst e;simp [hq]
    ·have:¬ c.rep=(r:Int):=by rw [hq];omega
     simp [e,this]
   have oM:(aX sn0 (M++[c]))=c:=kF _ _ _;refine ⟨?_,fun r hr=>?_,fun r hr=>?_,fun q' i x e1 e2=>?_⟩
   ·rw [jS (G':=fun r=>if r=q then ag M r++[⟨c.lo,c.hi⟩] else ag M r) 16 (fun r _=>hp r),zaq (ag M) q ⟨c.lo,c.hi⟩ (fun r hr=>i3 r (by have:=S.rep;omega)) 16,if_pos Fv,<- i1]
    have hc:c=⟨(q:Int),c.lo,c.hi⟩:=by rw [<- hq]
    exact congrArg (fun x=>M++[x]) hc
   ·rw [hp r];by_cases e:r=q
    ·subst e;rw [if_pos rfl];refine zcc (i2 r hr) (fun i x hx=>?_) ?_ S.ord S.top
     ·by_cases e2:c.rep=(aX sn0 M).rep
      ·have h1:=i4 r i x (by rw [<- e2,hq]) hx;have h2:=S.gap e2
       show x.hi+2 <= c.lo
       omega
      ·have:=i3 r (by have:=S.rep;omega);rw [this] at hx;simp at hx
     ·have:=S.lead;rw [hq,za3 Z hr] at this;exact this
    ·rw [if_neg e];exact i2 r hr
   ·rw [oM,hq] at hr;rw [hp r,if_neg (by omega)];exact i3 r (by have:=S.rep;omega)
   ·rw [oM,hq] at e1
    obtain rfl:q'=q:=by omega
    rw [hp q',if_pos rfl] at e2;have:=List.append_inj' e2 rfl;rw [oM];have h2:=this.2;simp at h2;rw [<- h2]
def pf (P:Pst):Prop:=ae (aa P) P
theorem jX {P:Pst} (hv:P.vec=V.aH (V.at' P.vec)) (hc:chain P.vec sn0 P.cloud):pf P:=by
 obtain ⟨h1,h2,_,_⟩:=zao P.vec _ P.cloud rfl hc
 have key:∀ r,r < 16 -> form 1 (aa P r)/\aG (aa P r)=V.at' P.vec r/\cC (aa P r)=ag P.cloud r:=by
  intro r hr;have hb:=V.zbL P.vec r;have hf:=h2 r hr;unfold aa aQ;by_cases h0:0 < V.at' P.vec r
  ·rw [if_pos h0];exact ⟨⟨Int.le_refl _,(show (1:Int) <= V.at' P.vec r by omega),hb.2,hf⟩,rfl,rfl⟩
  ·rw [if_neg h0]
   have e0:V.at' P.vec r=0:=by omega
   rw [e0] at hf ⊢;rw [List.nil_append];refine ⟨jv (by omega) hf,?_⟩
   cases hcp:ag P.cloud r with
   | nil=>exact ⟨rfl,rfl⟩
   | cons x t =>
    rw [hcp] at hf;have:=hf.1
    have aT:¬ x.lo=1:=by omega
    simp [aG,cC,aT]
 refine ⟨aa P,fun r hr=>aZ.self (key r hr).1,?_⟩;unfold fB;rw [yk,jS (G':=ag P.cloud) 16 (fun r hr=>(key r hr).2.2),<- h1,xF (g:=V.at' P.vec) (fun r hr=>(key r hr).2.1),<- hv]
theorem ze3 {N:Nat -> List Rn} (hN:∀ r,r < 16 -> form 1 (N r)) (Z:List Int) (hZ:Z=V.aH (fun r=>aG (N r))):∀ r,r < 16 -> V.at' Z r=aG (N r):=by
 have hf:∀ r,r < 16 -> 0 <= aG (N r)/\aG (N r) <= 1000000000:=fun r hr=>ju (hN r hr);intro r hr;rw [hZ];exact zbK hf r hr
theorem ze2 {N:Nat -> List Rn} (Z:List Int) (hZ:Z=V.aH (fun r=>aG (N r))) (hz:∀ r,r < 16 -> V.at' Z r=aG (N r)):Z=V.aH (V.at' Z):=by
 rw [xF hz];exact hZ
theorem zcq (N:Nat -> List Rn):(fB N).vec=V.aH (fun r=>aG (N r)):=rfl
theorem zat (N:Nat -> List Rn):(fB N).cloud=aO N 16:=rfl
theorem ze4 {N:Nat -> List Rn} (hN:∀ r,r < 16 -> form 1 (N r)) (Z:List Int) (hz:∀ r,r < 16 -> V.at' Z r=aG (N r)) (k:Nat) (hk:k <= 16) (L:List Sn) (hL:L=aO N k):chain Z sn0 L:=by
 rw [hL];exact (kU hN hz k hk).1
theorem jW {P:Pst} {G:Nat -> List Rn} (h:ae G P):P.vec=V.aH (V.at' P.vec)/\chain P.vec sn0 P.cloud:=by
 obtain ⟨N,hN,e⟩:=h
 have e1:P.vec=V.aH (fun r=>aG (N r)):=by rw [e,zcq]
 have e2:P.cloud=aO N 16:=by rw [e,zat]
 have Dr:∀ r,r < 16 -> form 1 (N r):=fun r hr=>(hN r hr).1;have hz:=ze3 Dr P.vec e1;exact And.intro (ze2 P.vec e1 hz) (ze4 Dr P.vec hz 16 (Nat.le_refl _) P.cloud e2)
theorem zz {P:Pst}:pf P↔P.vec=V.aH (V.at' P.vec)/\chain P.vec sn0 P.cloud:=⟨fun h=>jW h,fun h=>jX h.1 h.2⟩
theorem ae.canon {P:Pst} {G:Nat -> List Rn} (h:ae G P):pf P:=zz.2 (jW h)
end
end Go.Proofs.YtcilfelgpmfehaaGreat
namespace Go.Proofs.YtcilfelgpmfehaaGreat.V
open Go.RowKit

theorem zcw (f:Nat -> Int) (k:Nat):∀ r,ek f k <= r -> r < k -> f r=0:=by
 induction k with
 | zero=>intro r _ h;omega
 | succ k ih =>
  intro r h1 h2;unfold ek at h1
  split at h1
  ·by_cases e:r=k
   ·subst e;assumption
   ·exact ih r h1 (by omega)
  ·omega
theorem zcx (f:Nat -> Int) (k:Nat) (h:ek f k≠0):f (ek f k - 1)≠0:=by
 induction k with
 | zero=>simp [ek] at h
 | succ k ih =>
  unfold ek at h ⊢
  split
  ·rename_i e;rw [if_pos e] at h;exact ih h
  ·rename_i e;simpa using e
theorem za5 (f:Nat -> Int) (r:Nat) (h1:top f <= r) (h2:r < 16):f r=0:=zcw f 16 r h1 h2
theorem za6 (f:Nat -> Int) (h:top f≠0):f (top f - 1)≠0:=zcx f 16 h
theorem zbO (f:Nat -> Int) (n:Nat) (oN:n <= 16) (h1:∀ r,n <= r -> r < 16 -> f r=0) (h2:n=0∨f (n - 1)≠0):top f=n:=by
 have a:=kL f;rcases Nat.lt_trichotomy (top f) n with h | h | h
 ·rcases h2 with h2 | h2
  ·omega
  ·exact absurd (za5 f (n - 1) (by omega) (by omega)) h2
 ·exact h
 ·exact absurd (h1 (top f - 1) (by omega) (by omega)) (za6 f (by omega))
theorem vl (f:Nat -> Int) (k:Nat) (h:k < top f):(aH f).getD k 0=f k:=by simp [aH,List.getD,h]
theorem jG (f:Nat -> Int) (k:Nat) (h:k < 16):(aH f).getD k 0=f k:=by
 by_cases hk:k < top f
 ·exact vl f k hk
 ·rw [za5 f k (by omega) h];simp [aH,List.getD,hk]
theorem ze0 {z:Int} (h:0 <= z/\z <= 1000000000):dK z=z:=by unfold dK;rw [if_neg (by omega),if_neg (by omega)]
theorem zbp (Z:List Int) (h:16 < Z.length):decide (Z=aH (at' Z))=false:=by
 rw [decide_eq_false_iff_not];intro e;have a:=kL (at' Z);have:=congrArg List.length e;rw [zO] at this;omega
theorem yO (Z:List Int) (k:Nat) (hk:k < Z.length) (h:¬ (0 <= Z.getD k 0/\Z.getD k 0 <= 1000000000)):decide (Z=aH (at' Z))=false:=by
 rw [decide_eq_false_iff_not];intro e;apply h;have hl:=congrArg List.length e;rw [zO] at hl;rw [e,vl _ k (by omega)];exact zbL Z k
theorem yf (Z:List Int) (h0:0 < Z.length) (h:Z.getD (Z.length - 1) 0=0):decide (Z=aH (at' Z))=false:=by
 rw [decide_eq_false_iff_not];intro e;have hl:=congrArg List.length e;rw [zO] at hl;have h1:=za6 (at' Z) (by omega);have h2:=vl (at' Z) (top (at' Z) - 1) (by omega);rw [<- e,<- hl] at h2;rw [<- hl,<- h2] at h1;exact h1 h
theorem zaO (Z:List Int) (oN:Z.length <= 16) (hw:∀ k,k < Z.length -> 0 <= Z.getD k 0/\Z.getD k 0 <= 1000000000) (h0:Z.length=0∨Z.getD (Z.length - 1) 0≠0):decide (Z=aH (at' Z))=true:=by
 rw [decide_eq_true_iff]
 have fj:∀ r,r < Z.length -> at' Z r=Z.getD r 0:=fun r hr=>by unfold at';rw [if_pos (by omega)];exact ze0 (hw r hr)
 have ht:top (at' Z)=Z.length:=by
  refine zbO _ _ oN (fun r h1 h2=>?_) ?_
  ·unfold at';rw [if_pos h2,List.getD,List.getElem?_eq_none h1];rfl
  ·rcases h0 with h | h
   ·exact Or.inl h
   ·by_cases hz:Z.length=0
    ·exact Or.inl hz
    ·exact Or.inr (by rw [fj _ (by omega)];exact h)
 apply List.ext_getElem
 ·rw [zO,ht]
 ·intro i h1 h2;have e1:(aH (at' Z)).getD i 0=at' Z i:=vl _ i (by omega);rw [fj i h1] at e1;simp only [List.getD,List.getElem?_eq_getElem h1,List.getElem?_eq_getElem h2,Option.getD_some] at e1;exact e1.symm

theorem Src.at {w:World} {ao:Option Addr} {n c:Nat} {Z:List Int} (S:Src w ao n c Z) (k:Nat) (h:k < n):∃ ad,ao=some ad/\w.cell? (ad.add k)=some (.int .i64 (Z.getD k 0)):=by
 cases ao with
 | none=>have:=S.2.1 rfl;omega
 | some ad=>exact ⟨ad,rfl,S.2.2 ad rfl k h⟩
theorem zb8 (ao:Option Addr) (n cap:Nat) (Z:List Int) (w:World) (hS:Src w ao n cap Z) :
  Calls Tryz.prog 94 #[.slice ao n cap] w fun e w'=>e = .returned (.bool (decide (Z=aH (at' Z))))/\Below w.heap.size w w':=by
 have HS:=hide hS;have hl:=hS.1;have HL:=hide hl;clear hS;by_cases oN:16 < n
 ·have HF:=hide (zbp Z (by omega))
  have Fy:(16:Int) < n:=by omega
  clear hl;go_enter Tryz.func94,Tryz.ntmps94;go_wp2;go_ret;exact ⟨zm HF.out.symm,Below.refl _ _⟩
 have Fy:¬ (16:Int) < n:=by omega
 clear hl;go_enter Tryz.func94,Tryz.ntmps94;go_wp2;go_loopw [10] (fun i wr=>∃ k:Nat,k <= n/\i = .int .i64 k/\Hid (∀ j,j < k -> 0 <= Z.getD j 0/\Z.getD j 0 <= 1000000000)/\wr=w) (fun i _=>n - (intOf i).toNat)
 case atStart=>exact ⟨0,Nat.zero_le _,rfl,fun j h=>(by omega),by trivial⟩
 case round =>
  obtain ⟨k,hk,rfl,HW,rfl⟩:=hrel;by_cases aq:k < n
  ·obtain ⟨ad,rfl,ca⟩:=HS.out.at k aq;obtain ⟨z,HX⟩:∃ z,Hid (Z.getD k 0=z):=⟨_,rfl⟩;rw [HX.out] at ca;by_cases h1:z < 0
   ·have HF:=hide (yO Z k (by have:=HL.out;omega) (by rw [HX.out];omega));go_wp2;go_ret;exact ⟨zm HF.out.symm,Below.refl _ _⟩
   ·by_cases h2:1000000000 < z
    ·have HF:=hide (yO Z k (by have:=HL.out;omega) (by rw [HX.out];omega));go_wp2;go_ret;exact ⟨zm HF.out.symm,Below.refl _ _⟩
    ·go_wp2;go_roundw
     case rel =>
      refine ⟨k+1,by omega,by go_num,fun j hj=>?_,by trivial⟩;by_cases e:j=k
      ·subst e;rw [HX.out];omega
      ·exact HW.out j (by omega)
     case measure=>simp [intOf];omega
  ·obtain rfl:k=n:=by omega
   by_cases h0:k=0
   ·subst h0;have HF:=hide (zaO Z (by have:=HL.out;omega) (fun j hj=>HW.out j (by have:=HL.out;omega)) (Or.inl HL.out));go_wp2;go_ret;exact ⟨zm HF.out.symm,Below.refl _ _⟩
   ·have iA:((k:Int) == 0)=false:=by simpa using h0
    obtain ⟨ad,rfl,ca⟩:=HS.out.at (k - 1) (by omega);obtain ⟨z,HX⟩:∃ z,Hid (Z.getD (k - 1) 0=z):=⟨_,rfl⟩;rw [HX.out] at ca
    have hi:((k:Int) - 1).toNat=k - 1:=by omega
    have hA:(1:Int) <= k:=by omega
    by_cases hz:z=0
    ·have HF:=hide (yf Z (by have:=HL.out;omega) (by rw [HL.out,HX.out];exact hz))
     have El:(z != 0)=false:=by simp [hz]
     clear hz;go_wp2;go_ret;exact ⟨zm HF.out.symm,Below.refl _ _⟩
    ·have HF:=hide (zaO Z (by have:=HL.out;omega) (fun j hj=>HW.out j (by have:=HL.out;omega)) (Or.inr (by rw [HL.out,HX.out];exact hz)))
     have El:(z != 0)=true:=by simp [hz]
     clear hz;go_wp2;go_ret;exact ⟨zm HF.out.symm,Below.refl _ _⟩
end Go.Proofs.YtcilfelgpmfehaaGreat.V
