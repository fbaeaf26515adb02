/- RPk RCo RLd PCl QFm QFo -/
import Derived.Test.YtcilfelgpmfehaaGreatBj02
import Derived.Deep.RegionHeldLaw
set_option maxRecDepth 100000
set_option maxHeartbeats 1000000
namespace Go.Proofs.YtcilfelgpmfehaaGreat
section

def DH:List Rn -> Int -> Int
 | [],_=>0
 | r :: a,k=>if k <= r.hi - r.lo+1 then r.lo+k - 1 else DH a (k - (r.hi - r.lo+1))
def pk (a:List Rn) (k:Int):Int:=if k < 1 then 0 else DH a k
def tB:List Rn -> Int -> List Rn
 | [],_=>[]
 | r :: a,n=>if n < r.lo then [] else if n <= r.hi then [⟨r.lo,n⟩] else r :: tB a n
def rk (a:List Rn) (n:Int):Int:=sz (tB a n)
def fst:List Rn -> Int -> Int
 | [],_=>0
 | r :: a,f=>if f <= r.hi then max r.lo f else fst a f
theorem zfJ (r:Rn) (a:List Rn):sz (r :: a)=(r.hi - r.lo+1)+sz a:=rfl
end
section

end
section
open Go.RowKit
attribute [local go_sem ↓] ki j8
attribute [local go_sem] zZ zD zN qr
def fO (A:List Rn) (k:Int) (L:List Rn):Prop:=form 1 L/\0 <= k/\k <= 1000000000/\(∀ X,aZ A X -> k+sz L=sz X)/\(∀ r L',L=r :: L' -> k+2 <= r.lo)/\∃ X,aZ A X/\((k=0/\X=L/\∀ r X',X=r :: X' -> r.lo≠1)∨X=⟨1,k⟩ :: L)
def ir (w w':World) (e:Ending) (A:List Rn):Prop:=∃ k a1 n1 c1 L,e = .returned (.tuple #[.int .i64 k,.slice a1 n1 c1])/\aU w' a1 n1 c1 L/\fO A k L/\Below w.heap.size w w'/\∀ ad,a1=some ad -> w.heap.size <= ad.block
theorem zev (ao:Option Addr) (n cap:Nat) (A:List Rn) (w:World) (hS:aU w ao n cap A) :
  Calls Tryz.prog 92 #[.slice ao n cap] w fun e w'=>ir w w' e A:=by
 have HS:=hide hS;clear hS;go_enter Tryz.func92,Tryz.ntmps92;go_wp2_with fail;refine (vr ao n cap A _ HS.out).mono ?_;rintro e w1 ⟨a1,n1,c1,X,rfl,S1,b1,f1',p1⟩;have uI:=hide f1';have ei:=hide S1;have eo:=hide p1;have aW:=hide b1;have hn:=S1.big;have hc:=S1.cap;have rl:=S1.room;unfold maxLen at rl;have HL:Hid (X.length=n1):=S1.len;clear S1 b1 p1 f1'
 cases X with
 | nil =>
  obtain rfl:n1=0:=HL.out.symm;have HF:Hid (fO A 0 []):=⟨trivial,by omega,by omega,fun Y hY=>by rw [hY.unique eo.out];simp,(fun r L' e=>by cases e),⟨[],eo.out,Or.inl ⟨rfl,rfl,(fun r X' e=>by cases e)⟩⟩⟩;go_wp2_with fail;go_ret2;exact (⟨_,_,_,_,_,rfl,ei.out,HF.out,aW.out,uI.out⟩:ir _ _ _ _)
 | cons r X =>
  have se:0 < n1:=by rw [<- HL.out];simp
  obtain ⟨ad,rfl,_⟩:=ei.out.at 0 (by omega);obtain ⟨b,o,rfl⟩:=ei.out.spot (by omega);obtain ⟨q0,q1⟩:=ei.out.nums 0 (by omega);simp [List.getD] at q0 q1;have f1:=eo.out.1.1;have f2:=eo.out.1.2.1;have f3:=eo.out.1.2.2.1
  have d0:((n1:Int) == 0)=false:=by simp;omega
  have HT:=hide ei.out.tail';by_cases h1:r.lo=1
  ·have d1:(r.lo != 1)=false:=by simpa using h1
   have HF:Hid (fO A r.hi X):=⟨jv (by omega) eo.out.1.2.2.2,by omega,by omega,fun Y hY=>by rw [hY.unique eo.out,zfJ];omega,fun s L' e=>by
    have:=eo.out.1.2.2.2;rw [e] at this
    exact this.1,⟨_,eo.out,Or.inr (by obtain ⟨r1,r2⟩:=r;simp only at h1;subst h1;rfl)⟩⟩
   clear h1;by_cases hcc:c1=1
   ·subst hcc
    obtain rfl:n1=1:=by omega
    have Au:aU w1 (some ⟨b,o,none⟩) 0 0 X:=HT.out;replace HT:=hide Au;clear Au;have k1:=cell_regrown q1;go_wp2_with fail;refine wp_region_quiet_below (by kernel_rfl) (by kernel_rfl) ?_
    repeat (with_reducible (refine wpQuiet_step ?_);intro K hK;go_simp;(try rw [if_neg (by unfold undef;simp)]);first | (with_reducible (refine hK _ ?_);clear hK K) | (apply Exists.intro;refine ⟨fun _=>?_,hK _ ?_⟩;(fail);clear hK K))
    with_reducible (refine wpQuiet_nil ?_)
    intro w5 hw';obtain ⟨⟨dq,osq⟩,hw''⟩:=hw'
    have b5:Below w1.heap.size w1 w5:=by rw [hw''];exact below_regrown w1 dq osq
    clear hw'' dq osq;have E0:=hide (HT.out.below b5);have ee:=wTr aW b5;have HN:Hid (ir w w5 (.returned (.tuple #[.int .i64 r.hi,.slice (some ⟨b,o,none⟩) 0 0])) A):=⟨_,_,_,_,X,rfl,E0.out,HF.out,ee.out,(fun ad h=>by obtain rfl:=Option.some.inj h;exact uI.out ⟨b,o,none⟩ rfl)⟩;clear b5 k1;go_wp2_with fail;go_ret2;exact HN.out
   ·have Au:=HT.out;rw [if_neg hcc] at Au;replace HT:=hide Au;clear Au;have k1:=cell_regrown q1
    have NN:(1:Int) <= (n1:Int):=by omega
    go_wp2_with fail;refine wp_region_quiet_below (by kernel_rfl) (by kernel_rfl) ?_
    repeat (with_reducible (refine wpQuiet_step ?_);intro K hK;go_simp;(try rw [if_neg (by unfold undef;simp)]);first | (with_reducible (refine hK _ ?_);clear hK K) | (apply Exists.intro;refine ⟨fun _=>?_,hK _ ?_⟩;(fail);clear hK K))
    with_reducible (refine wpQuiet_nil ?_)
    intro w5 hw';obtain ⟨⟨dq,osq⟩,hw''⟩:=hw'
    have b5:Below w1.heap.size w1 w5:=by rw [hw''];exact below_regrown w1 dq osq
    clear hw'' dq osq;have E0:=hide (HT.out.below b5);have ee:=wTr aW b5;have HN:Hid (ir w w5 (.returned (.tuple #[.int .i64 r.hi,.slice (some ⟨b,o+2,none⟩) (n1 - 1) (c1 - 1)])) A):=⟨_,_,_,_,X,rfl,E0.out,HF.out,ee.out,(fun ad h=>by obtain rfl:=Option.some.inj h;exact uI.out ⟨b,o,none⟩ rfl)⟩;clear b5 k1;go_wp2_with fail;go_ret2;exact HN.out
  ·have d1:(r.lo != 1)=true:=by simpa using h1
   have HF:Hid (fO A 0 (r :: X)):=⟨eo.out.1,by omega,by omega,fun Y hY=>by rw [hY.unique eo.out];simp,fun s L' e=>by
    injection e with e1 e2;subst e1
    omega,⟨_,eo.out,Or.inl ⟨rfl,rfl,fun s X' e=>by injection e with e1 e2;subst e1;exact h1⟩⟩⟩
   clear h1;go_wp2_with fail;go_ret2;exact (⟨_,_,_,_,_,rfl,ei.out,HF.out,aW.out,uI.out⟩:ir _ _ _ _)
end
section
open Go.RowKit

def aG:List Rn -> Int
 | []=>0
 | r :: _=>if r.lo=1 then r.hi else 0
def cC:List Rn -> List Rn
 | []=>[]
 | r :: t=>if r.lo=1 then t else r :: t
def tag (r:Nat) (L:List Rn):List Sn:=L.map (fun x=>⟨(r:Int),x.lo,x.hi⟩)
def aO (N:Nat -> List Rn):Nat -> List Sn
 | 0=>[]
 | k+1=>aO N k++tag k (cC (N k))
def fB (N:Nat -> List Rn):Pst:=⟨V.aH (fun r=>aG (N r)),aO N 16⟩
theorem zde {A X:List Rn} {k:Int} {L:List Rn} (h:fO A k L) (hX:aZ A X):k=aG X/\L=cC X:=by
 obtain ⟨_,_,_,_,_,Y,hY,h | h⟩:=h
 ·obtain rfl:=hX.unique hY;obtain ⟨rfl,rfl,hr⟩:=h
  cases X with
  | nil=>exact ⟨rfl,rfl⟩
  | cons r t =>
   have:=hr r t rfl;simp [aG,cC,this]
 ·obtain rfl:=hX.unique hY;subst h;simp [aG,cC]
theorem fO.norm {A:List Rn} {k:Int} {L:List Rn} (h:fO A k L):∃ X,aZ A X/\k=aG X/\L=cC X:=by
 obtain ⟨X,hX,_⟩:=h.2.2.2.2.2;exact ⟨X,hX,zde h hX⟩
theorem ju {X:List Rn} (h:form 1 X):0 <= aG X/\aG X <= 1000000000:=by
 cases X with
 | nil=>simp [aG]
 | cons r t =>
  have h1:=h.1;have h2:=h.2.1;have h3:=h.2.2.1;simp only [aG]
  split <;> omega
theorem wZ (X:List Rn):(cC X).length <= X.length:=by
 cases X with
 | nil=>simp [cC]
 | cons r t=>simp only [cC];split <;> simp
theorem kz (r:Nat) (L:List Rn):(tag r L).length=L.length:=by simp [tag]
theorem jy {N N':Nat -> List Rn}:∀ k,(∀ r,r < k -> N r=N' r) -> aO N k=aO N' k
 | 0,_=>rfl
 | k+1,h=>by rw [aO,aO,jy k (fun r hr=>h r (by omega)),h k (by omega)]
theorem jP {N:Nat -> List Rn}:∀ k,(∀ r,r < k -> form 1 (N r)) -> (aO N k).length <= k * 500000001
 | 0,_=>by simp [aO]
 | k+1,h=>by
  have h1:=jP k (fun r hr=>h r (by omega));have h2:=wZ (N k);have h3:=x7 (Int.le_refl _) (h k (by omega));rw [aO,List.length_append,kz];omega
theorem wG {f g:Nat -> Int}:∀ k,(∀ r,r < k -> f r=g r) -> V.ek f k=V.ek g k
 | 0,_=>rfl
 | k+1,h=>by rw [V.ek,V.ek,wG k (fun r hr=>h r (by omega)),h k (by omega)]
theorem xF {f g:Nat -> Int} (h:∀ r,r < 16 -> f r=g r):V.aH f=V.aH g:=by
 have ht:V.top f=V.top g:=wG 16 h;have oN:=V.kL g;unfold V.aH;rw [ht];apply List.map_congr_left;intro r hr;exact h r (by have:=List.mem_range.1 hr;omega)
theorem zas {N N':Nat -> List Rn} (h:∀ r,r < 16 -> N r=N' r):fB N=fB N':=by
 unfold fB;rw [xF (fun r hr=>by rw [h r hr]),jy 16 h]
def ae (G:Nat -> List Rn) (P:Pst):Prop:=∃ N,(∀ r,r < 16 -> aZ (G r) (N r))/\P=fB N
theorem ae.unique {G G':Nat -> List Rn} {P P':Pst} (h:ae G P) (h':ae G' P') (e:∀ r,r < 16 -> ∀ n,mem (G r) n↔mem (G' r) n):P=P':=by
 obtain ⟨N,hN,rfl⟩:=h;obtain ⟨N',Dr,rfl⟩:=h';exact zas fun r hr=>j3 (Int.le_refl _) (hN r hr).1 (Dr r hr).1 (fun n=>((hN r hr).2 n).trans ((e r hr n).trans ((Dr r hr).2 n).symm))
theorem zbK {f:Nat -> Int} (hf:∀ r,r < 16 -> 0 <= f r/\f r <= 1000000000) (r:Nat) (hr:r < 16):V.at' (V.aH f) r=f r:=by
 unfold V.at';rw [if_pos hr]
 have key:∀ k,V.ek f k <= r -> r < k -> f r=0:=by
  intro k
  induction k with
  | zero=>intro _ h;omega
  | succ k ih =>
   intro h1 h2;rw [V.ek] at h1;by_cases h0:f k=0
   ·rw [if_pos h0] at h1;by_cases e:r=k
    ·rw [e];exact h0
    ·exact ih h1 (by omega)
   ·rw [if_neg h0] at h1;omega
 have hb:=hf r hr;by_cases h:r < V.top f
 ·have:(V.aH f).getD r 0=f r:=by simp [V.aH,List.getD,h]
  rw [this];unfold V.dK;rw [if_neg (by omega),if_neg (by omega)]
 ·have h0:f r=0:=key 16 (by unfold V.top at h;omega) hr
  have:(V.aH f).getD r 0=0:=by
   rw [List.getD,List.getElem?_eq_none (by rw [V.zO];omega)];rfl
  rw [this,h0];rfl
theorem jq (L M:List Sn) (r:Nat):ag (L++M) r=ag L r++ag M r:=by simp [ag]
theorem y8 (q r:Nat) (L:List Rn):ag (tag q L) r=if q=r then L else []:=by
 induction L with
 | nil=>simp [ag,tag]
 | cons x L ih =>
  have e:tag q (x :: L)=[(⟨(q:Int),x.lo,x.hi⟩:Sn)]++tag q L:=rfl;rw [e,jq,ih];by_cases h:q=r
  ·subst h;simp [ag]
  ·have:¬ (q:Int)=(r:Int):=by omega
   simp [ag,h,this]
theorem wl (N:Nat -> List Rn) (r:Nat):∀ k,ag (aO N k) r=if r < k then cC (N r) else []
 | 0=>by simp [aO,ag]
 | k+1=>by
  rw [aO,jq,wl N r k,y8];by_cases h:k=r
  ·subst h;simp
  ·by_cases h':r < k
   ·simp [h,h',show r < k+1 by omega]
   ·simp [h,h',show ¬ r < k+1 by omega]
theorem yQ {X:List Rn} (h:form 1 X) (n:Int):mem (aQ (aG X)++cC X) n↔mem X n:=by
 cases X with
 | nil=>simp [aG,cC,aQ]
 | cons r t =>
  have h1:=h.1;have h2:=h.2.1;have h3:=h.2.2.1;by_cases e:r.lo=1
  ·have hp:0 < r.hi:=by omega
   have hr:(⟨1,r.hi⟩:Rn)=r:=by cases r;simp_all
   simp [aG,cC,e,aQ,hp,hr]
  ·simp [aG,cC,e,aQ]
theorem zV {G:Nat -> List Rn} {P:Pst} (h:ae G P) (r:Nat) (hr:r < 16) (n:Int):mem (aa P r) n↔mem (G r) n:=by
 obtain ⟨N,hN,rfl⟩:=h;have hf:∀ r,r < 16 -> 0 <= aG (N r)/\aG (N r) <= 1000000000:=fun r hr=>ju (hN r hr).1;unfold aa fB;dsimp only;rw [zbK hf r hr,wl,if_pos hr,yQ (hN r hr).1];exact (hN r hr).2 n
theorem jB {G:Nat -> List Rn} {P:Pst} (h:ae G P):P.cloud.length <= 8000000016/\P.vec.length <= 16:=by
 obtain ⟨N,hN,rfl⟩:=h;have:=jP (N:=N) 16 (fun r hr=>(hN r hr).1);refine ⟨by show (aO N 16).length <= _;omega,by show (V.aH _).length <= _;rw [V.zO];exact V.kL _⟩
def de (n:Nat) (p:Pv):Prop:=(∀ ad,p.vo=some ad -> n <= ad.block)/\∀ ad,p.co=some ad -> n <= ad.block
theorem de.mono {n m:Nat} {p:Pv} (h:de n p) (hm:m <= n):de m p:=⟨fun ad e=>Nat.le_trans hm (h.1 ad e),fun ad e=>Nat.le_trans hm (h.2 ad e)⟩
def cW (w w':World) (e:Ending) (Q:Pst -> Prop):Prop:=∃ p:Pv,e = .returned (PV p)/\ak w' p/\de w.heap.size p/\Below w.heap.size w w'/\Q p.P
theorem ke {w w':World} {p:Pv} (h:ak w p) (hv:∀ ad,p.vo=some ad -> w'.heap[ad.block]? = w.heap[ad.block]?) (hc:∀ ad,p.co=some ad -> w'.heap[ad.block]? = w.heap[ad.block]?):ak w' p:=⟨h.vec.off hv,h.cloud.off hc,h.big⟩
theorem xq {w W:World} {g:Nat} {p:Pv} (hP:aE W g pv0) (hS:ak W p) (hn:de (g+1) p) (hb:Below w.heap.size w W) (hg:w.heap.size <= g):(stP (.pointer (some ⟨g,0,none⟩)) (PV p)).run Tryz.prog W = .ok () (W.setRow g (PC p))/\aE (W.setRow g (PC p)) g p/\ak (W.setRow g (PC p)) p/\de w.heap.size p/\Below w.heap.size w (W.setRow g (PC p)):=by
 refine ⟨qJ hP,setRow_heap _ _ _ _ _ _ hP,ke hS (fun ad h=>setRow_other _ _ _ _ (fun e=>?_)) (fun ad h=>setRow_other _ _ _ _ (fun e=>?_)),hn.mono (by omega),zg hb hg⟩
 ·have:=hn.1 ad h;omega
 ·have:=hn.2 ad h;omega
theorem ae.congr {G G':Nat -> List Rn} {P:Pst} (h:ae G P) (e:∀ r,r < 16 -> G r=G' r):ae G' P:=by
 obtain ⟨N,hN,rfl⟩:=h;exact ⟨N,fun r hr=>by rw [<- e r hr];exact hN r hr,rfl⟩
end
section
open Go.RowKit

def vfn (N:Nat -> List Rn) (y t q:Nat):Int:=if q < y then aG (N q) else if q=y then aG ((N y).take t) else 0
def Nl (N:Nat -> List Rn) (y t:Nat):Nat:=if aG ((N y).take t)=0 then V.ek (fun q=>aG (N q)) y else y+1
def vcl (N:Nat -> List Rn) (y t:Nat):List Sn:=aO N y++tag y (cC ((N y).take t))
def V16 (f:Nat -> Int):Array Value:=((List.range 16).map (fun q=>Value.int .i64 (f q))).toArray
end
section
open Go.RowKit
attribute [local go_sem ↓] qX xu zl zk V.vV
attribute [local go_sem] xv q8 qS qi xW qy bp zw zf zW zh
theorem zg2 (s:Sn):(SC s=#[])=False:=by simp [SC]
theorem zgK (e:Sn):Array.foldl (fun cs x=>cs.setIfInBounds x.snd x.fst) #[(SC sn0)[0]!,(SC sn0)[1]!,(SC sn0)[2]!] (SC e).zipIdx 0 3=SC e:=rfl
attribute [local go_sem] zg2 zgK
end
end Go.Proofs.YtcilfelgpmfehaaGreat
