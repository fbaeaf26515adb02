/- RLd PCl QFm -/
import Derived.Test.YtjffpimfngdggaaGreatTk
import Derived.Test.YtjffpimfngdggaaGreatFe05
import Derived.Test.YtjffpimfngdggaaGreatFe03
set_option maxRecDepth 100000
set_option maxHeartbeats 1000000
namespace Go.Proofs.YtjffpimfngdggaaGreat
section
open Go.RowKit
attribute [local go_sem ↓] kM ky
attribute [local go_sem] zS zC zN ql
def gF (A:List Rn) (k:Int) (L:List Rn):Prop:=form 1 L/\0 <= k/\k <= 1000000000/\(∀ X,aT A X -> k+sz L=sz X)/\(∀ r L',L=r :: L' -> k+2 <= r.lo)/\∃ X,aT A X/\((k=0/\X=L/\∀ r X',X=r :: X' -> r.lo≠1)∨X=⟨1,k⟩ :: L)
def gA (w w':World) (e:Ending) (A:List Rn):Prop:=∃ k a1 n1 c1 L,e = .returned (.tuple #[.int .i64 k,.slice a1 n1 c1])/\aX w' a1 n1 c1 L/\gF A k L/\Below w.heap.size w w'/\∀ ad,a1=some ad -> w.heap.size <= ad.block
theorem zgn (ao:Option Addr) (n cap:Nat) (A:List Rn) (w:World) (hS:aX w ao n cap A) :
  Calls Tryz.prog 155 #[.slice ao n cap] w fun e w'=>gA w w' e A:=by
 have HS:=hide hS;clear hS;go_enter Tryz.func155,Tryz.ntmps155;go_wp2_with fail;refine (wg ao n cap A _ HS.out).mono ?_;rintro e w1 ⟨a1,n1,c1,X,rfl,S1,b1,f1',p1⟩;have Av:=hide f1';have dm:=hide S1;have fA:=hide p1;have aN:=hide b1;have hn:=S1.big;have hc:=S1.cap;have Mx:=S1.room;unfold maxLen at Mx;have HL:Hid (X.length=n1):=S1.len;clear S1 b1 p1 f1'
 cases X with
 | nil =>
  obtain rfl:n1=0:=HL.out.symm;have HF:Hid (gF A 0 []):=⟨trivial,by omega,by omega,fun Y hY=>by rw [hY.unique fA.out];simp,(fun r L' e=>by cases e),⟨[],fA.out,Or.inl ⟨rfl,rfl,(fun r X' e=>by cases e)⟩⟩⟩;go_wp2_with fail;go_ret2;exact (⟨_,_,_,_,_,rfl,dm.out,HF.out,aN.out,Av.out⟩:gA _ _ _ _)
 | cons r X =>
  have sR:0 < n1:=by rw [<- HL.out];simp
  obtain ⟨ad,rfl,_⟩:=dm.out.at 0 (by omega);obtain ⟨b,o,rfl⟩:=dm.out.spot (by omega);obtain ⟨q0,q1⟩:=dm.out.nums 0 (by omega);simp [List.getD] at q0 q1;have f1:=fA.out.1.1;have f2:=fA.out.1.2.1;have f3:=fA.out.1.2.2.1
  have d0:((n1:Int) == 0)=false:=by simp;omega
  have HT:=hide dm.out.tail';by_cases h1:r.lo=1
  ·have d1:(r.lo != 1)=false:=by simpa using h1
   have HF:Hid (gF A r.hi X):=⟨jQ (by omega) fA.out.1.2.2.2,by omega,by omega,fun Y hY=>by rw [hY.unique fA.out,zd4];omega,fun s L' e=>by
    have:=fA.out.1.2.2.2;rw [e] at this
    exact this.1,⟨_,fA.out,Or.inr (by obtain ⟨r1,r2⟩:=r;simp only at h1;subst h1;rfl)⟩⟩
   clear h1;by_cases hcc:c1=1
   ·subst hcc
    obtain rfl:n1=1:=by omega
    have sW:aX w1 (some ⟨b,o,none⟩) 0 0 X:=HT.out;replace HT:=hide sW;clear sW;have k1:=cell_regrown q1;go_wp2_with fail;refine wp_region_quiet_below (by kernel_rfl) (by kernel_rfl) ?_
    repeat (with_reducible (refine wpQuiet_step ?_);intro K hK;go_simp;(try rw [if_neg (by unfold undef;simp)]);first | (with_reducible (refine hK _ ?_);clear hK K) | (apply Exists.intro;refine ⟨fun _=>?_,hK _ ?_⟩;(fail);clear hK K))
    with_reducible (refine wpQuiet_nil ?_)
    intro w5 hw';obtain ⟨⟨dq,osq⟩,hw''⟩:=hw'
    have b5:Below w1.heap.size w1 w5:=by rw [hw''];exact below_regrown w1 dq osq
    clear hw'' dq osq;have Ck:=hide (HT.out.below b5);have dO:=wTr aN b5;have HN:Hid (gA w w5 (.returned (.tuple #[.int .i64 r.hi,.slice (some ⟨b,o,none⟩) 0 0])) A):=⟨_,_,_,_,X,rfl,Ck.out,HF.out,dO.out,(fun ad h=>by obtain rfl:=Option.some.inj h;exact Av.out ⟨b,o,none⟩ rfl)⟩;clear b5 k1;go_wp2_with fail;go_ret2;exact HN.out
   ·have sW:=HT.out;rw [if_neg hcc] at sW;replace HT:=hide sW;clear sW;have k1:=cell_regrown q1
    have NG:(1:Int) <= (n1:Int):=by omega
    go_wp2_with fail;refine wp_region_quiet_below (by kernel_rfl) (by kernel_rfl) ?_
    repeat (with_reducible (refine wpQuiet_step ?_);intro K hK;go_simp;(try rw [if_neg (by unfold undef;simp)]);first | (with_reducible (refine hK _ ?_);clear hK K) | (apply Exists.intro;refine ⟨fun _=>?_,hK _ ?_⟩;(fail);clear hK K))
    with_reducible (refine wpQuiet_nil ?_)
    intro w5 hw';obtain ⟨⟨dq,osq⟩,hw''⟩:=hw'
    have b5:Below w1.heap.size w1 w5:=by rw [hw''];exact below_regrown w1 dq osq
    clear hw'' dq osq;have Ck:=hide (HT.out.below b5);have dO:=wTr aN b5;have HN:Hid (gA w w5 (.returned (.tuple #[.int .i64 r.hi,.slice (some ⟨b,o+2,none⟩) (n1 - 1) (c1 - 1)])) A):=⟨_,_,_,_,X,rfl,Ck.out,HF.out,dO.out,(fun ad h=>by obtain rfl:=Option.some.inj h;exact Av.out ⟨b,o,none⟩ rfl)⟩;clear b5 k1;go_wp2_with fail;go_ret2;exact HN.out
  ·have d1:(r.lo != 1)=true:=by simpa using h1
   have HF:Hid (gF A 0 (r :: X)):=⟨fA.out.1,by omega,by omega,fun Y hY=>by rw [hY.unique fA.out];simp,fun s L' e=>by
    injection e with e1 e2;subst e1
    omega,⟨_,fA.out,Or.inl ⟨rfl,rfl,fun s X' e=>by injection e with e1 e2;subst e1;exact h1⟩⟩⟩
   clear h1;go_wp2_with fail;go_ret2;exact (⟨_,_,_,_,_,rfl,dm.out,HF.out,aN.out,Av.out⟩:gA _ _ _ _)
end
section
open Go.RowKit

def ar:List Rn -> Int
 | []=>0
 | r :: _=>if r.lo=1 then r.hi else 0
def a7:List Rn -> List Rn
 | []=>[]
 | r :: t=>if r.lo=1 then t else r :: t
def tag (r:Nat) (L:List Rn):List Sn:=L.map (fun x=>⟨(r:Int),x.lo,x.hi⟩)
def aJ (N:Nat -> List Rn):Nat -> List Sn
 | 0=>[]
 | k+1=>aJ N k++tag k (a7 (N k))
def dM (N:Nat -> List Rn):Pst:=⟨V.aL (fun r=>ar (N r)),aJ N 16⟩
theorem zeK {A X:List Rn} {k:Int} {L:List Rn} (h:gF A k L) (hX:aT A X):k=ar X/\L=a7 X:=by
 obtain ⟨_,_,_,_,_,Y,hY,h | h⟩:=h
 ·obtain rfl:=hX.unique hY;obtain ⟨rfl,rfl,hr⟩:=h
  cases X with
  | nil=>exact ⟨rfl,rfl⟩
  | cons r t =>
   have:=hr r t rfl;simp [ar,a7,this]
 ·obtain rfl:=hX.unique hY;subst h;simp [ar,a7]
theorem gF.norm {A:List Rn} {k:Int} {L:List Rn} (h:gF A k L):∃ X,aT A X/\k=ar X/\L=a7 X:=by
 obtain ⟨X,hX,_⟩:=h.2.2.2.2.2;exact ⟨X,hX,zeK h hX⟩
theorem jP {X:List Rn} (h:form 1 X):0 <= ar X/\ar X <= 1000000000:=by
 cases X with
 | nil=>simp [ar]
 | cons r t =>
  have h1:=h.1;have h2:=h.2.1;have h3:=h.2.2.1;simp only [ar]
  split <;> omega
theorem vB (X:List Rn):(a7 X).length <= X.length:=by
 cases X with
 | nil=>simp [a7]
 | cons r t=>simp only [a7];split <;> simp
theorem j3 (r:Nat) (L:List Rn):(tag r L).length=L.length:=by simp [tag]
theorem jS {N N':Nat -> List Rn}:∀ k,(∀ r,r < k -> N r=N' r) -> aJ N k=aJ N' k
 | 0,_=>rfl
 | k+1,h=>by rw [aJ,aJ,jS k (fun r hr=>h r (by omega)),h k (by omega)]
theorem xM {N:Nat -> List Rn}:∀ k,(∀ r,r < k -> form 1 (N r)) -> (aJ N k).length <= k * 500000001
 | 0,_=>by simp [aJ]
 | k+1,h=>by
  have h1:=xM k (fun r hr=>h r (by omega));have h2:=vB (N k);have h3:=xt (Int.le_refl _) (h k (by omega));rw [aJ,List.length_append,j3];omega
theorem yE {f g:Nat -> Int}:∀ k,(∀ r,r < k -> f r=g r) -> V.dD f k=V.dD g k
 | 0,_=>rfl
 | k+1,h=>by rw [V.dD,V.dD,yE k (fun r hr=>h r (by omega)),h k (by omega)]
theorem xO {f g:Nat -> Int} (h:∀ r,r < 16 -> f r=g r):V.aL f=V.aL g:=by
 have ht:V.top f=V.top g:=yE 16 h;have ui:=V.vI g;unfold V.aL;rw [ht];apply List.map_congr_left;intro r hr;exact h r (by have:=List.mem_range.1 hr;omega)
theorem zbs {N N':Nat -> List Rn} (h:∀ r,r < 16 -> N r=N' r):dM N=dM N':=by
 unfold dM;rw [xO (fun r hr=>by rw [h r hr]),jS 16 h]
def af (G:Nat -> List Rn) (P:Pst):Prop:=∃ N,(∀ r,r < 16 -> aT (G r) (N r))/\P=dM N
theorem af.unique {G G':Nat -> List Rn} {P P':Pst} (h:af G P) (h':af G' P') (e:∀ r,r < 16 -> ∀ n,mem (G r) n↔mem (G' r) n):P=P':=by
 obtain ⟨N,hN,rfl⟩:=h;obtain ⟨N',Eh,rfl⟩:=h';exact zbs fun r hr=>kn (Int.le_refl _) (hN r hr).1 (Eh r hr).1 (fun n=>((hN r hr).2 n).trans ((e r hr n).trans ((Eh r hr).2 n).symm))
theorem zc9 {f:Nat -> Int} (hf:∀ r,r < 16 -> 0 <= f r/\f r <= 1000000000) (r:Nat) (hr:r < 16):V.at' (V.aL f) r=f r:=by
 unfold V.at';rw [if_pos hr]
 have key:∀ k,V.dD f k <= r -> r < k -> f r=0:=by
  intro k
  induction k with
  | zero=>intro _ h;omega
  | succ k ih =>
   intro h1 h2;rw [V.dD] at h1;by_cases h0:f k=0
   ·rw [if_pos h0] at h1;by_cases e:r=k
    ·rw [e];exact h0
    ·exact ih h1 (by omega)
   ·rw [if_neg h0] at h1;omega
 have hb:=hf r hr;by_cases h:r < V.top f
 ·have:(V.aL f).getD r 0=f r:=by simp [V.aL,List.getD,h]
  rw [this];unfold V.eI;rw [if_neg (by omega),if_neg (by omega)]
 ·have h0:f r=0:=key 16 (by unfold V.top at h;omega) hr
  have:(V.aL f).getD r 0=0:=by
   rw [List.getD,List.getElem?_eq_none (by rw [V.zR];omega)];rfl
  rw [this,h0];rfl
theorem jF (L M:List Sn) (r:Nat):ag (L++M) r=ag L r++ag M r:=by simp [ag]
theorem zav (q r:Nat) (L:List Rn):ag (tag q L) r=if q=r then L else []:=by
 induction L with
 | nil=>simp [ag,tag]
 | cons x L ih =>
  have e:tag q (x :: L)=[(⟨(q:Int),x.lo,x.hi⟩:Sn)]++tag q L:=rfl;rw [e,jF,ih];by_cases h:q=r
  ·subst h;simp [ag]
  ·have:¬ (q:Int)=(r:Int):=by omega
   simp [ag,h,this]
theorem yr (N:Nat -> List Rn) (r:Nat):∀ k,ag (aJ N k) r=if r < k then a7 (N r) else []
 | 0=>by simp [aJ,ag]
 | k+1=>by
  rw [aJ,jF,yr N r k,zav];by_cases h:k=r
  ·subst h;simp
  ·by_cases h':r < k
   ·simp [h,h',show r < k+1 by omega]
   ·simp [h,h',show ¬ r < k+1 by omega]
theorem zae {X:List Rn} (h:form 1 X) (n:Int):mem (aW (ar X)++a7 X) n↔mem X n:=by
 cases X with
 | nil=>simp [ar,a7,aW]
 | cons r t =>
  have h1:=h.1;have h2:=h.2.1;have h3:=h.2.2.1;by_cases e:r.lo=1
  ·have hp:0 < r.hi:=by omega
   have hr:(⟨1,r.hi⟩:Rn)=r:=by cases r;simp_all
   simp [ar,a7,e,aW,hp,hr]
  ·simp [ar,a7,e,aW]
theorem qf {G:Nat -> List Rn} {P:Pst} (h:af G P) (r:Nat) (hr:r < 16) (n:Int):mem (ae P r) n↔mem (G r) n:=by
 obtain ⟨N,hN,rfl⟩:=h;have hf:∀ r,r < 16 -> 0 <= ar (N r)/\ar (N r) <= 1000000000:=fun r hr=>jP (hN r hr).1;unfold ae dM;dsimp only;rw [zc9 hf r hr,yr,if_pos hr,zae (hN r hr).1];exact (hN r hr).2 n
theorem jW {G:Nat -> List Rn} {P:Pst} (h:af G P):P.cloud.length <= 8000000016/\P.vec.length <= 16:=by
 obtain ⟨N,hN,rfl⟩:=h;have:=xM (N:=N) 16 (fun r hr=>(hN r hr).1);refine ⟨by show (aJ N 16).length <= _;omega,by show (V.aL _).length <= _;rw [V.zR];exact V.vI _⟩
def du (n:Nat) (p:Pv):Prop:=(∀ ad,p.vo=some ad -> n <= ad.block)/\∀ ad,p.co=some ad -> n <= ad.block
theorem du.mono {n m:Nat} {p:Pv} (h:du n p) (hm:m <= n):du m p:=⟨fun ad e=>Nat.le_trans hm (h.1 ad e),fun ad e=>Nat.le_trans hm (h.2 ad e)⟩
def cV (w w':World) (e:Ending) (Q:Pst -> Prop):Prop:=∃ p:Pv,e = .returned (PV p)/\am w' p/\du w.heap.size p/\Below w.heap.size w w'/\Q p.P
theorem jx {w w':World} {p:Pv} (h:am w p) (hv:∀ ad,p.vo=some ad -> w'.heap[ad.block]? = w.heap[ad.block]?) (hc:∀ ad,p.co=some ad -> w'.heap[ad.block]? = w.heap[ad.block]?):am w' p:=⟨h.vec.off hv,h.cloud.off hc,h.big⟩
theorem qU {w W:World} {g:Nat} {p:Pv} (hP:aA W g pv0) (hS:am W p) (hn:du (g+1) p) (hb:Below w.heap.size w W) (hg:w.heap.size <= g):(stP (.pointer (some ⟨g,0,none⟩)) (PV p)).run Tryz.prog W = .ok () (W.setRow g (PC p))/\aA (W.setRow g (PC p)) g p/\am (W.setRow g (PC p)) p/\du w.heap.size p/\Below w.heap.size w (W.setRow g (PC p)):=by
 refine ⟨qQ hP,setRow_heap _ _ _ _ _ _ hP,jx hS (fun ad h=>setRow_other _ _ _ _ (fun e=>?_)) (fun ad h=>setRow_other _ _ _ _ (fun e=>?_)),hn.mono (by omega),zh hb hg⟩
 ·have:=hn.1 ad h;omega
 ·have:=hn.2 ad h;omega
theorem af.congr {G G':Nat -> List Rn} {P:Pst} (h:af G P) (e:∀ r,r < 16 -> G r=G' r):af G' P:=by
 obtain ⟨N,hN,rfl⟩:=h;exact ⟨N,fun r hr=>by rw [<- e r hr];exact hN r hr,rfl⟩
end
section
open Go.RowKit

theorem zhO:∀ (R:List Rn) (t:Nat),t < R.length -> (tn R).getD (2 * t) 0=(R.getD t rn0).lo/\(tn R).getD (2 * t+1) 0=(R.getD t rn0).hi+1
 | [],t,h=>by simp at h
 | r :: R,0,_=>⟨rfl,rfl⟩
 | r :: R,t+1,h=>by
  have ih:=zhO R t (by simpa using h)
  have e1:2 * (t+1)=2 * t+1+1:=by omega
  have e2:2 * (t+1)+1=2 * t+1+1+1:=by omega
  rw [e1];simp only [tn,List.getD_cons_succ];exact ih
theorem zbR (R:List Rn) (t:Nat) (h:t < R.length):R.take (t+1)=R.take t++[R.getD t rn0]:=by
 rw [List.take_succ_eq_append_getElem h];simp [List.getD,h]
theorem zam:∀ {R:List Rn} {l:Int},form l R -> ∀ t,t < R.length -> l <= (R.getD t rn0).lo/\(R.getD t rn0).lo <= (R.getD t rn0).hi/\(R.getD t rn0).hi <= 1000000000
 | R,l,h,t,ht=>by
  have hm:R.getD t rn0∈R:=by
   have:R.getD t rn0=R[t]:=by simp [List.getD,ht]
   rw [this];exact List.getElem_mem ht
  exact zb5 h _ hm
theorem zdC {R:List Rn} (h:form 1 R) (t:Nat) (ht:t < R.length) (e:(R.getD t rn0).lo=1):t=0:=by
 cases R with
 | nil=>simp at ht
 | cons r R =>
  cases t with
  | zero=>rfl
  | succ t =>
   exfalso;have h1:=h.1;have h2:=h.2.1;have:=(zam h.2.2.2 t (by simpa using ht)).1;rw [List.getD_cons_succ] at e;omega
theorem zeL {R:List Rn} (h:form 1 R) (t:Nat) (ht:t < R.length) (e:(R.getD t rn0).lo=1):ar (R.take t)=0/\ar (R.take (t+1))=(R.getD t rn0).hi/\a7 (R.take (t+1))=a7 (R.take t)/\1 <= (R.getD t rn0).hi:=by
 obtain rfl:=zdC h t ht e;rw [zbR R 0 ht];have:=(zam h 0 ht).2.1;refine ⟨rfl,?_,?_,by omega⟩
 ·simp only [List.take_zero,List.nil_append,ar];rw [if_pos e]
 ·simp only [List.take_zero,List.nil_append,a7];rw [if_pos e]
theorem zel {R:List Rn} (t:Nat) (ht:t < R.length) (e:¬ (R.getD t rn0).lo=1):ar (R.take (t+1))=ar (R.take t)/\a7 (R.take (t+1))=a7 (R.take t)++[R.getD t rn0]:=by
 rw [zbR R t ht];generalize R.getD t rn0=x at e
 cases hr:R.take t with
 | nil=>simp [ar,a7,e]
 | cons r q =>
  simp only [List.cons_append,ar,a7,true_and]
  split <;> simp
theorem zfO (r:Nat) (L:List Rn) (x:Rn):tag r (L++[x])=tag r L++[⟨(r:Int),x.lo,x.hi⟩]:=by simp [tag]
def vfn (N:Nat -> List Rn) (y t q:Nat):Int:=if q < y then ar (N q) else if q=y then ar ((N y).take t) else 0
def ll (N:Nat -> List Rn) (y t:Nat):Nat:=if ar ((N y).take t)=0 then V.dD (fun q=>ar (N q)) y else y+1
def vcl (N:Nat -> List Rn) (y t:Nat):List Sn:=aJ N y++tag y (a7 ((N y).take t))
theorem zdV (N:Nat -> List Rn) (y:Nat):ll N y 0=V.dD (fun q=>ar (N q)) y:=by simp [ll,ar]
theorem zfH (N:Nat -> List Rn) (y:Nat):ll N y (N y).length=V.dD (fun q=>ar (N q)) (y+1):=by
 rw [ll,List.take_length,V.dD]
theorem zfM (N:Nat -> List Rn) (y:Nat):vcl N y 0=aJ N y:=by simp [vcl,a7,tag]
theorem zhM (N:Nat -> List Rn) (y:Nat):vcl N y (N y).length=aJ N (y+1):=by rw [vcl,List.take_length,aJ]
theorem zhL (N:Nat -> List Rn) (y q:Nat):vfn N y (N y).length q=vfn N (y+1) 0 q:=by
 unfold vfn;rw [List.take_length];by_cases h1:q < y
 ·rw [if_pos h1,if_pos (by omega)]
 ·rw [if_neg h1];by_cases h2:q=y
  ·subst h2;rw [if_pos rfl,if_pos (by omega)]
  ·rw [if_neg h2,if_neg (by omega)];by_cases h3:q=y+1
   ·rw [if_pos h3];simp [ar]
   ·rw [if_neg h3]
theorem zfJ {N:Nat -> List Rn} {y t:Nat} (h:form 1 (N y)) (ht:t < (N y).length) (e:((N y).getD t rn0).lo=1) (q:Nat):vfn N y (t+1) q=if q=y then ((N y).getD t rn0).hi else vfn N y t q:=by
 unfold vfn;rw [(zeL h t ht e).2.1];by_cases h1:q < y
 ·rw [if_pos h1,if_neg (by omega),if_pos h1]
 ·rw [if_neg h1];by_cases h2:q=y
  ·rw [if_pos h2,if_pos h2]
  ·rw [if_neg h2,if_neg h2,if_neg h1,if_neg h2]
theorem zfI {N:Nat -> List Rn} {y t:Nat} (ht:t < (N y).length) (e:¬ ((N y).getD t rn0).lo=1) (q:Nat):vfn N y (t+1) q=vfn N y t q:=by
 unfold vfn;rw [(zel t ht e).1]
def V16 (f:Nat -> Int):Array Value:=((List.range 16).map (fun q=>Value.int .i64 (f q))).toArray
theorem zfx {f g:Nat -> Int} (h:∀ q,f q=g q):V16 f=V16 g:=by unfold V16;rw [funext h]
theorem ziB (f:Nat -> Int) (y:Nat) (z:Int):(V16 f).setIfInBounds y (.int .i64 z)=V16 (fun q=>if q=y then z else f q):=by
 apply Array.ext
 ·simp [V16]
 ·intro i h1 h2;simp [V16] at h2;by_cases h:y=i
  ·subst h;simp [V16]
  ·have:¬ i=y:=fun e=>h e.symm;simp [V16,h,this]
structure FoI (w W:World) (T:Nat -> Si) (f:Nat -> Int) (co:Option Addr) (cn cc:Nat) (cl:List Sn):Prop where
 a:aS W w.heap.size 141 T
 z:aA W (w.heap.size+1) pv0
 p:aA W (w.heap.size+1+1) ⟨none,0,0,co,cn,cc,⟨[],cl⟩⟩
 v:W.heap[w.heap.size+1+1+1]? = some (.cells (V16 f) 3 (0,0))
 o:eH w.heap.size (w.heap.size+1+1+1+1) w W co cc cl
 l:cl.length=cn
theorem eH.set {B0 B:Nat} {w w':World} {ao:Option Addr} {cap:Nat} {acc:List Sn} (O:eH B0 B w w' ao cap acc) {q t:Nat} {v:Value} (h1:B0 <= q) (h2:q < B):eH B0 B w (w'.setCell ⟨q,t,none⟩ v) ao cap acc:=by
 refine ⟨⟨O.own.1,?_⟩,V.qg O.below h1,by simpa [World.setCell] using O.hB,O.hB0⟩;rcases O.own.2 with h | ⟨g,cap2,cur,hv,dN,dy,r⟩
 ·exact Or.inl h
 ·exact Or.inr ⟨g,cap2,cur,hv,dN,(zy (by omega)).trans dy,r⟩
theorem FoI.congr {w W:World} {T:Nat -> Si} {f f':Nat -> Int} {co:Option Addr} {cn cc:Nat} {cl cl':List Sn} (I:FoI w W T f co cn cc cl) (h:∀ q,f q=f' q) (hc:cl=cl'):FoI w W T f' co cn cc cl':=by
 obtain rfl:f=f':=funext h;subst hc;exact I
theorem FoI.vset {w W:World} {T:Nat -> Si} {f:Nat -> Int} {co:Option Addr} {cn cc:Nat} {cl:List Sn} (I:FoI w W T f co cn cc cl) (y:Nat) (z:Int):FoI w (W.setCell ⟨w.heap.size+1+1+1,y,none⟩ (.int .i64 z)) T (fun q=>if q=y then z else f q) co cn cc cl:=by
 have hs:∀ {q:Nat},q≠w.heap.size+1+1+1 -> (W.setCell ⟨w.heap.size+1+1+1,y,none⟩ (.int .i64 z)).heap[q]? = W.heap[q]?:=fun h=>zy h;refine ⟨(hs (by omega)).trans I.a,(hs (by omega)).trans I.z,(hs (by omega)).trans I.p,?_,I.o.set (by omega) (by omega),I.l⟩;have h:=I.v;simp [World.setCell,h,Array.getElem?_modify,ziB]
theorem FoI.cset {w W W2:World} {T:Nat -> Si} {f:Nat -> Int} {co:Option Addr} {cn cc:Nat} {cl:List Sn} (I:FoI w W T f co cn cc cl) {g c2:Nat} {e:Sn} (O:eH w.heap.size (w.heap.size+1+1+1+1) w W2 (some ⟨g,0,none⟩) c2 (cl++[e])) (hk:∀ k,k < w.heap.size+1+1+1+1 -> W2.heap[k]? = W.heap[k]?) {v:Value} (hv:v = .slice (some ⟨g,0,none⟩) (cn+1) c2) :
  FoI w (W2.setCell ⟨w.heap.size+1+1,1,none⟩ v) T f (some ⟨g,0,none⟩) (cn+1) c2 (cl++[e]):=by
 subst hv;have hs:∀ {q:Nat},q≠w.heap.size+1+1 -> (W2.setCell ⟨w.heap.size+1+1,1,none⟩ (.slice (some ⟨g,0,none⟩) (cn+1) c2)).heap[q]? = W2.heap[q]?:=fun h=>zy h;refine ⟨(hs (by omega)).trans ((hk _ (by omega)).trans I.a),(hs (by omega)).trans ((hk _ (by omega)).trans I.z),?_,(hs (by omega)).trans ((hk _ (by omega)).trans I.v),O.set (by omega) (by omega),by rw [List.length_append,I.l];rfl⟩;have h:=(hk _ (by omega)).trans I.p;unfold aA;simp [World.setCell,h,Array.getElem?_modify,PC]
end
end Go.Proofs.YtjffpimfngdggaaGreat
