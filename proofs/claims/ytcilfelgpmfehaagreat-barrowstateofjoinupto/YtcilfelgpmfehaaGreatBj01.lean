/- RPv QTp QMp QSo QTu PSe PPl PMd QMi QMj QMe Shf RMr -/
import Derived.Test.YtcilfelgpmfehaaGreatTk
import Derived.Test.YtcilfelgpmfehaaGreatBj00
import Derived.Deep.RegionHeldLaw
import Derived.Deep.CutRange
import Derived.Deep.CutBlock
import Derived.Shelf.SlSortCmp.WholeK
import Derived.Test.YtcilfelgpmfehaaGreatProg
import Derived.Shelf.SlSortCmp.NoneTotal
import Derived.Shelf.SlicesQ.Reverse
import Derived.Lib.OwnBridge
namespace Go.Proofs.YtcilfelgpmfehaaGreat
section

theorem zai {acc:List Rn} {r:Rn} (h:form 1 acc) (hg:∀ i l,acc=i++[l] -> l.hi+2 <= r.lo) (h1:1 <= r.lo) (h2:r.lo <= r.hi) (h3:r.hi <= 1000000000):form 1 (acc++[r]):=by
 rcases List.eq_nil_or_concat acc with e | ⟨i,l,e⟩
 ·subst e;exact ⟨h1,h2,h3,trivial⟩
 ·rw [List.concat_eq_append] at e;subst e;exact kp h (hg i l rfl) h2 h3
structure dM (x y x' y' acc:List Rn):Prop where
 frm:form 1 acc
 mm:∀ n,(mem acc n∨(mem x' n/\mem y' n))↔(mem x n/\mem y n)
 gap:∀ i l,acc=i++[l] -> ∀ n,mem x' n -> mem y' n -> l.hi+2 <= n
 fx:form 1 x'
 fy:form 1 y'
theorem dM.start {x y:List Rn} (hx:form 1 x) (hy:form 1 y):dM x y x y []:=
 ⟨trivial,fun n=>⟨fun h=>h.elim (fun e=>absurd e (qN n)) id,Or.inr⟩,(fun i l h=>by cases i <;> cases h),hx,hy⟩
def met (acc:List Rn) (a b:Rn):List Rn:=if max a.lo b.lo <= min a.hi b.hi then acc++[⟨max a.lo b.lo,min a.hi b.hi⟩] else acc
theorem zc7 (acc:List Rn) (a b:Rn) (n:Int):mem (met acc a b) n↔mem acc n∨(mem [a] n/\mem [b] n):=by
 unfold met;rw [qq,qq]
 split
 ·rw [mem_append,qq];simp only;constructor
  ·rintro (e | e)
   ·exact Or.inl e
   ·exact Or.inr ⟨⟨e.1,e.2.1,by omega,by omega⟩,⟨e.1,e.2.1,by omega,by omega⟩⟩
  ·rintro (e | ⟨e,f⟩)
   ·exact Or.inl e
   ·exact Or.inr ⟨e.1,e.2.1,by omega,by omega⟩
 ·constructor
  ·exact Or.inl
  ·rintro (e | ⟨e,f⟩)
   ·exact e
   ·omega
theorem dM.form_met {x y xs ys acc:List Rn} {a b:Rn} (h:dM x y (a :: xs) (b :: ys) acc):form 1 (met acc a b):=by
 unfold met;have fa:=h.fx;have fb:=h.fy
 split
 ·refine zai h.frm (fun i l e=>?_) ?_ ?_ ?_
  ·refine h.gap i l e (max a.lo b.lo) ((mem_cons _ _ _).2 (Or.inl ⟨?_,?_,?_,?_⟩)) ((mem_cons _ _ _).2 (Or.inl ⟨?_,?_,?_,?_⟩)) <;> (have:=fa.1;have:=fa.2.1;have:=fa.2.2.1;have:=fb.1;have:=fb.2.1;have:=fb.2.2.1;omega)
  ·have:=fa.1;simp only;omega
  ·simp only;assumption
  ·have:=fa.2.2.1;simp only;omega
 ·exact h.frm
theorem zc8 {x y xs ys acc i:List Rn} {a b l:Rn} (h:dM x y (a :: xs) (b :: ys) acc) (e:met acc a b=i++[l]):(∀ n,mem (a :: xs) n -> mem (b :: ys) n -> l.hi+2 <= n)∨l.hi=min a.hi b.hi:=by
 unfold met at e
 split at e
 ·right;have:=List.append_inj_right' e rfl;simp at this;rw [<- this]
 ·exact Or.inl (h.gap i l e)
theorem dM.left {x y xs ys acc:List Rn} {a b:Rn} (h:dM x y (a :: xs) (b :: ys) acc) (aq:a.hi < b.hi):dM x y xs (b :: ys) (met acc a b):=by
 have fa:=h.fx;have fb:=h.fy;refine ⟨h.form_met,fun n=>?_,fun i l e n hx hy=>?_,jv (by have:=fa.1;have:=fa.2.1;omega) fa.2.2.2,fb⟩
 ·rw [<- h.mm n,zc7];constructor
  ·rintro ((e | ⟨e,f⟩) | ⟨e,f⟩)
   ·exact Or.inl e
   ·exact Or.inr ⟨(mem_cons _ _ _).2 (Or.inl ((qq _ _).1 e)),(mem_cons _ _ _).2 (Or.inl ((qq _ _).1 f))⟩
   ·exact Or.inr ⟨(mem_cons _ _ _).2 (Or.inr e),f⟩
  ·rintro (e | ⟨e,f⟩)
   ·exact Or.inl (Or.inl e)
   ·rcases (mem_cons _ _ _).1 e with e | e
    ·rcases (mem_cons _ _ _).1 f with f | f
     ·exact Or.inl (Or.inr ⟨(qq _ _).2 e,(qq _ _).2 f⟩)
     ·have:=xV fb.2.2.2 f;omega
    ·exact Or.inr ⟨e,f⟩
 ·rcases zc8 h e with g | g
  ·exact g n ((mem_cons _ _ _).2 (Or.inr hx)) hy
  ·have:=xV fa.2.2.2 hx;omega
theorem dM.right {x y xs ys acc:List Rn} {a b:Rn} (h:dM x y (a :: xs) (b :: ys) acc) (aq:¬ a.hi < b.hi):dM x y (a :: xs) ys (met acc a b):=by
 have fa:=h.fx;have fb:=h.fy;refine ⟨h.form_met,fun n=>?_,fun i l e n hx hy=>?_,fa,jv (by have:=fb.1;have:=fb.2.1;omega) fb.2.2.2⟩
 ·rw [<- h.mm n,zc7];constructor
  ·rintro ((e | ⟨e,f⟩) | ⟨e,f⟩)
   ·exact Or.inl e
   ·exact Or.inr ⟨(mem_cons _ _ _).2 (Or.inl ((qq _ _).1 e)),(mem_cons _ _ _).2 (Or.inl ((qq _ _).1 f))⟩
   ·exact Or.inr ⟨e,(mem_cons _ _ _).2 (Or.inr f)⟩
  ·rintro (e | ⟨e,f⟩)
   ·exact Or.inl (Or.inl e)
   ·rcases (mem_cons _ _ _).1 f with f | f
    ·rcases (mem_cons _ _ _).1 e with e | e
     ·exact Or.inl (Or.inr ⟨(qq _ _).2 e,(qq _ _).2 f⟩)
     ·have:=xV fa.2.2.2 e;omega
    ·exact Or.inr ⟨e,f⟩
 ·rcases zc8 h e with g | g
  ·exact g n hx ((mem_cons _ _ _).2 (Or.inr hy))
  ·have:=xV fb.2.2.2 hy;omega
def dD (a b R:List Rn):Prop:=form 1 R/\∀ n,mem R n↔mem a n/\mem b n
theorem dM.done {x y x' y' acc a b:List Rn} (h:dM x y x' y' acc) (he:x'=[]∨y'=[]) (hx:aZ a x) (hy:aZ b y):dD a b acc:=by
 refine ⟨h.frm,fun n=>?_⟩;rw [<- hx.2 n,<- hy.2 n,<- h.mm n];constructor
 ·exact Or.inl
 ·rintro (e | ⟨e,f⟩)
  ·exact e
  ·rcases he with he | he
   ·subst he;exact absurd e (qN n)
   ·subst he;exact absurd f (qN n)
structure fJ (p q acc:List Rn) (next:Int):Prop where
 frm:form 1 acc
 mm:∀ n,mem acc n↔(1 <= n/\n <= 1000000000/\n < next/\¬ mem p n)
 gap:∀ i l,acc=i++[l] -> l.hi+2 <= next
 lo:1 <= next
 hi:next <= 1000000001
 pm:∀ n,mem p n -> n < next
 rest:form next q
theorem fJ.start {R:List Rn} (h:form 1 R):fJ [] R [] 1:=
 ⟨trivial,fun n=>⟨fun e=>absurd e (qN n),fun e=>by omega⟩,(fun i l h=>by cases i <;> cases h),Int.le_refl _,by omega,fun n e=>absurd e (qN n),h⟩
def fQ (acc:List Rn) (next lo:Int):List Rn:=if next < lo then acc++[⟨next,lo - 1⟩] else acc
theorem zbo (acc:List Rn) (next lo n:Int) (h1:1 <= next) (h3:lo <= 1000000001):mem (fQ acc next lo) n↔mem acc n∨(next <= n/\n < lo):=by
 unfold fQ
 split
 ·rw [mem_append,qq];simp only;constructor
  ·rintro (e | e)
   ·exact Or.inl e
   ·exact Or.inr (by omega)
  ·rintro (e | e)
   ·exact Or.inl e
   ·exact Or.inr (by omega)
 ·exact ⟨Or.inl,fun e=>e.elim id (fun e=>by omega)⟩
theorem bY {p q acc:List Rn} {next lo:Int} (h:fJ p q acc next) (h3:lo <= 1000000001):form 1 (fQ acc next lo):=by
 unfold fQ
 split
 ·refine zai h.frm (fun i l e=>h.gap i l e) h.lo ?_ ?_ <;> (simp only;omega)
 ·exact h.frm
theorem fJ.step {p q acc:List Rn} {next:Int} {r:Rn} (h:fJ p (r :: q) acc next):fJ (p++[r]) q (fQ acc next r.lo) (r.hi+1):=by
 have fr:=h.rest;have f1:=fr.1;have f2:=fr.2.1;have f3:=fr.2.2.1;have Lp:=h.lo;refine ⟨bY h (by omega),fun n=>?_,fun i l e=>?_,by omega,by omega,fun n hn=>?_,jv (by omega) fr.2.2.2⟩
 ·rw [zbo _ _ _ _ Lp (by omega),h.mm n,mem_append,qq];constructor
  ·rintro (e | e)
   ·exact ⟨e.1,e.2.1,by omega,fun c=>c.elim e.2.2.2 (fun c=>by omega)⟩
   ·exact ⟨by omega,by omega,by omega,fun c=>c.elim (fun c=>by have:=h.pm n c;omega) (fun c=>by omega)⟩
  ·rintro ⟨e1,e2,e3,e4⟩;by_cases c:n < next
   ·exact Or.inl ⟨e1,e2,c,fun d=>e4 (Or.inl d)⟩
   ·exact Or.inr ⟨by omega,Classical.byContradiction fun d=>e4 (Or.inr ⟨e1,e2,by omega,by omega⟩)⟩
 ·unfold fQ at e
  split at e
  ·have:=List.append_inj_right' e rfl;simp at this;rw [<- this];simp only;omega
  ·have:=h.gap i l e;omega
 ·rw [mem_append,qq] at hn;rcases hn with e | e
  ·have:=h.pm n e;omega
  ·omega
def lQ (a O:List Rn):Prop:=form 1 O/\∀ n,mem O n↔(1 <= n/\n <= 1000000000/\¬ mem a n)
theorem fJ.done {R acc a:List Rn} {next:Int} (h:fJ R [] acc next) (hR:aZ a R):lQ a (fQ acc next 1000000001):=by
 refine ⟨bY h (Int.le_refl _),fun n=>?_⟩;rw [zbo _ _ _ _ h.lo (Int.le_refl _),h.mm n,<- hR.2 n];constructor
 ·rintro (e | e)
  ·exact ⟨e.1,e.2.1,e.2.2.2⟩
  ·exact ⟨by have:=h.lo;omega,by omega,fun c=>by have:=h.pm n c;omega⟩
 ·rintro ⟨e1,e2,e3⟩;by_cases c:n < next
  ·exact Or.inl ⟨e1,e2,c,e3⟩
  ·exact Or.inr ⟨by omega,by omega⟩
def cG (a b R:List Rn):Prop:=form 1 R/\∀ n,mem R n↔mem a n/\¬ mem b n
theorem zen {a b O R:List Rn} (hO:lQ b O) (h:dD a O R):cG a b R:=
 ⟨h.1,fun n=>by rw [h.2 n,hO.2 n];exact ⟨fun e=>⟨e.1,e.2.2.2⟩,fun e=>⟨e.1,e.1.1,e.1.2.1,e.2⟩⟩⟩
theorem zcd {a:List Rn} {l:Int} (hl:1 <= l) (h:form l a) (he:∀ n,¬ mem a n):a=[]:=by
 cases a with
 | nil=>rfl
 | cons r a=>exact absurd ((mem_cons r a r.lo).2 (Or.inl ⟨by have:=h.1;omega,by have:=h.2;omega,Int.le_refl _,h.2.1⟩)) (he _)
def sz:List Rn -> Int
 | []=>0
 | r :: a=>(r.hi - r.lo+1)+sz a
theorem zbQ:∀ {a:List Rn} {l:Int},form l a -> 0 <= sz a/\(a=[]∨sz a+l <= 1000000001)/\(sz a=0 -> a=[])
 | [],_,_=>⟨Int.le_refl _,Or.inl rfl,fun _=>rfl⟩
 | r :: a,l,h=>by
  have h1:=h.1;have h2:=h.2.1;have h3:=h.2.2.1;obtain ⟨i1,i2,i3⟩:=zbQ h.2.2.2;refine ⟨by simp only [sz];omega,Or.inr ?_,fun e=>by simp only [sz] at e;omega⟩;simp only [sz];rcases i2 with e | e
  ·subst e;simp only [sz];omega
  ·omega
theorem zcC (a b:List Rn):sz (a++b)=sz a+sz b:=by
 induction a with
 | nil=>simp [sz]
 | cons r a ih=>simp only [List.cons_append,sz,ih];omega
theorem zcB:∀ (a:List Rn) (l:Int) (k:Nat),form l a -> 0 <= sz (a.take k)/\sz (a.take k) <= sz a:=by
 intro a
 induction a with
 | nil=>intro l k _;simp [sz]
 | cons r a ih =>
  intro l k h
  cases k with
  | zero=>have:=(zbQ h).1;simp [sz] at *;exact this
  | succ k =>
   have:=ih _ k h.2.2.2;have:=h.2.1;simp only [List.take_succ_cons,sz];omega
end
section

def tn:List Rn -> List Int
 | []=>[]
 | r :: t=>r.lo :: (r.hi+1) :: tn t
theorem zcy (R:List Rn):(tn R).length=2 * R.length:=by
 induction R with
 | nil=>rfl
 | cons a t ih=>simp [tn,ih];omega
def cnt (L:List Int) (n:Int):Nat:=L.countP (fun x=>decide (x <= n))
def inR (R:List Rn) (n:Int):Prop:=∃ r,r∈R/\r.lo <= n/\n <= r.hi
structure SwG (I O:List Int):Prop where
 si:I.Pairwise (· <= ·)
 so:O.Pairwise (· <= ·)
 len:I.length=O.length
 c:∀ n,cnt O n <= cnt I (n - 1)
 lo:∀ x,x∈I -> 1 <= x
 hi:∀ x,x∈O -> x <= 1000000001
structure Sw (I O:List Int) (i j:Nat) (R:List Rn) (s:Option Int):Prop where
 hi:i <= I.length
 hj:j <= O.length
 ij:j <= i
 fm:form 1 R
 st:s=none↔i=j
 cl:s=none -> (∀ n,cnt (O.take j) n < cnt (I.take i) n↔inR R n)/\∀ x,x∈I.drop i -> ∀ q r,R=q++[r] -> r.hi+2 <= x
 op:∀ a,s=some a -> (∀ n,cnt (O.take j) n < cnt (I.take i) n↔inR R n∨a <= n)/\(∀ q r,R=q++[r] -> r.hi+2 <= a)/\1 <= a/\a∈I.take i
 le:∀ x,x∈I.take i++O.take j -> ∀ y,y∈I.drop i++O.drop j -> x <= y
end
section

structure MI (A B acc:List Int) (i j:Nat):Prop where
 p:acc.Perm (A.take i++B.take j)
 s:acc.Pairwise (· <= ·)
 l:∀ x,x∈acc -> ∀ y,y∈A.drop i++B.drop j -> x <= y
theorem getD_some (L:List Int) (i:Nat) (h:i < L.length):L[i]? = some (L.getD i 0):=by simp [List.getD,h]
end
section
open Go.RowKit
attribute [local go_sem ↓] V.vV
def Hn (w w':World) (e:Ending) (n:Nat) (P:List Int -> Prop):Prop:=∃ ao c L,e = .returned (.slice ao n c)/\V.Src w' ao n c L/\n <= c/\c <= maxLen/\(∀ ad,ao=some ad -> w.heap.size <= ad.block)/\Below w.heap.size w w'/\P L
end
section
open Go.RowKit

structure No (w W:World) (ai:Option Addr) (ci:Nat) (I:List Int) (ao:Option Addr) (co:Nat) (O:List Int):Prop where
 a:eB w.heap.size w.heap.size w W ai ci I
 b:eB w.heap.size w.heap.size w W ao co O
 d:∀ k,(Value.slice ai I.length ci).ownBlock=some k -> (Value.slice ao O.length co).ownBlock≠some k
def Nh (Lo Hi:List Int):List Rn:=List.zipWith (fun a b=>⟨a,b⟩) Lo Hi
def los (B:List Rn):List Int:=B.map (fun r=>r.lo)
def his (B:List Rn):List Int:=B.map (fun r=>r.hi+1)
def Ag (w w':World) (e:Ending) (A:List Rn):Prop:=∃ ao n c X,e = .returned (.slice ao n c)/\V.Src w' ao n c (tn X)/\(∀ ad,ao=some ad -> w.heap.size <= ad.block)/\Below w.heap.size w w'/\aZ A X
def SwV (w W:World) (I O:List Int) (i j:Nat) (ao:Option Addr) (cap:Nat) (acc:List Int) (R:List Rn) (s:Option Int):Prop:=eB w.heap.size w.heap.size w W ao cap acc/\Sw I O i j R s/\acc=tn R++s.toList
theorem SwV.len {w W:World} {I O:List Int} {i j:Nat} {ao:Option Addr} {cap:Nat} {acc:List Int} {R:List Rn} {s:Option Int} (h:SwV w W I O i j ao cap acc R s):acc.length <= 1000000003:=by
 have:=x7 (Int.le_refl _) h.2.1.fm;rw [h.2.2,List.length_append,zcy]
 cases s <;> simp <;> omega
end
section
open Go.RowKit

def slv (s:Sl):Value:=.slice s.ao s.n s.cap
def sl0:Sl:=⟨none,0,0,[]⟩
def SA (F:Nat -> Sl):Array Value:=((List.range 16).map fun r=>slv (F r)).toArray
abbrev SAv (F:Nat -> Sl):Value:=.agg (SA F)
theorem zgm (F:Nat -> Sl):(SA F).size=16:=by simp [SA]
theorem zgn (F:Nat -> Sl) (t:Nat) (h:t < 16):(SA F)[t]? = some (slv (F t)):=by simp [SA,h]
theorem zgV (F:Nat -> Sl):∀ v∈(SA F).toList,v.oneCell'=true:=by
 intro v hv;simp only [SA,List.mem_map] at hv;obtain ⟨r,_,rfl⟩:=hv;rfl
theorem q7 (F:Nat -> Sl):(SAv F).cells=SA F:=by simp [Value.cells]
theorem xO:(#[.slice none 0 0,.slice none 0 0,.slice none 0 0,.slice none 0 0,.slice none 0 0,.slice none 0 0,.slice none 0 0,.slice none 0 0,.slice none 0 0,.slice none 0 0,.slice none 0 0,.slice none 0 0,.slice none 0 0,.slice none 0 0,.slice none 0 0,.slice none 0 0]:Array Value)=SA (fun _=>sl0):=rfl
def cw (w:World) (g:Nat) (F:Nat -> Sl):Prop:=w.heap[g]? = some (.cells (SA F) 113 (0,0))
def dX (F:Nat -> Sl) (k:Nat) (s:Sl):Nat -> Sl:=fun r=>if r=k then s else F r
theorem xt (F:Nat -> Sl) (k:Nat) (s:Sl):dX F k s k=s:=by simp [dX]
theorem qv (F:Nat -> Sl) (k r:Nat) (s:Sl) (h:r≠k):dX F k s r=F r:=by simp [dX,h]
section
variable {w w' : World} {g : Nat} {F : Nat -> Sl}
theorem cw.lt (h:cw w g F):g < w.heap.size:=(Array.getElem?_eq_some_iff.1 h).1
theorem cw.cell (h:cw w g F) (t:Nat) (ht:t < 16):w.cell? ⟨g,t,none⟩=some (.slice (F t).ao (F t).n (F t).cap):=by
 unfold cw at h;simp [World.cell?,h,zgn F t ht,slv]
theorem cw.frozen (h:cw w g F) (t:Nat):w.frozen? ⟨g,t,none⟩=false:=by unfold cw at h;simp [World.frozen?,h]
theorem zgU (F:Nat -> Sl) (t:Nat) (s:Sl):(SA F).setIfInBounds t (slv s)=SA (dX F t s):=by
 apply Array.ext
 ·simp [SA]
 ·intro i h1 h2;simp [SA] at h2;by_cases h:t=i
  ·subst h;simp [SA,dX]
  ·have:¬ i=t:=fun e=>h e.symm;simp [SA,dX,h,this]
theorem cw.set (h:cw w g F) (t:Nat) (s:Sl) (v:Value) (hv:v=slv s):cw (w.setCell ⟨g,t,none⟩ v) g (dX F t s):=by
 subst hv;unfold cw at h ⊢;simp [World.setCell,h,Array.getElem?_modify,<- zgU]
theorem cw.below (h:cw w g F) (hb:Below w.heap.size w w'):cw w' g F:=(hb.block g h.lt).trans h
theorem jc (w:World) (F:Nat -> Sl):cw (w.alloc (.cells (SA F) 113)) w.heap.size F:=by unfold cw;rw [heap_alloc_new]
end
def ldA (v:Value):Sem Value:=Instr.loadAt 113 v
theorem kP (v:Value):Instr.loadAt 113 v=ldA v:=rfl
def stA (p v:Value):Sem Unit:=Instr.storeAt 113 p v
theorem kN (p v:Value):Instr.storeAt 113 p v=stA p v:=rfl
theorem nl:(Tryz.prog.info? 113).map (·.size)=some 16:=by kernel_rfl
theorem zcI {w:World} {g:Nat} {F:Nat -> Sl} (A:cw w g F):(loadVar 113 ⟨g,0,none⟩).run Tryz.prog w = .ok (SAv F) w:=by
 have hl:=run_loadCells_list (P:=Tryz.prog) (w:=w) ⟨g,0,none⟩ (SA F).toList (fun j v hv=>by
  rw [Addr.add_lit,Nat.zero_add]
  have hj:j < 16:=by have:=(List.getElem?_eq_some_iff.1 hv).1;simpa [SA] using this
  rw [A.cell j hj];have:=zgn F j hj;simp only [Array.getElem?_toList] at hv
  rw [this] at hv;exact hv)
 cases hq:Tryz.prog.info? 113 with
 | none=>have:=nl;simp [hq] at this
 | some x =>
  have hs:x.size=16:=by have:=nl;simpa [hq] using this
  have eL:(isAgg 113).run Tryz.prog w = .ok true w:=by
   unfold isAgg;rw [Sem.run_bind,run_underlying Tryz.underlying113 w];rfl
  have e:(SA F).toList.length=16:=by simp [SA]
  rw [e] at hl;simp [loadVar,Sem.run_bind,eL,sizeOf,typeInfo,hq,hs,hl,SAv]
theorem vI {w:World} {g:Nat} {F:Nat -> Sl} (A:cw w g F):(ldA (.pointer (some ⟨g,0,none⟩))).run Tryz.prog w = .ok (SAv F) w:=by
 unfold ldA;simp only [Instr.loadAt,Instr.sureAddr,Sem.run_bind,Sem.run_pure,Result.andThen];exact zcI A
theorem vH {w:World} {g:Nat} {F F':Nat -> Sl} (A:cw w g F):(stA (.pointer (some ⟨g,0,none⟩)) (SAv F')).run Tryz.prog w = .ok () (w.setRow g (SA F')):=by
 unfold stA;have h:=run_storeCells_from (P:=Tryz.prog) g 113 (SA F').toList 0 (SA F) w A (by simp [SA]) (zgV F')
 cases hq:Tryz.prog.info? 113 with
 | none=>have:=nl;simp [hq] at this
 | some x =>
  have hs:x.size=16:=by have:=nl;simpa [hq] using this
  simp only [Instr.storeAt,Instr.sureAddr,Sem.run_bind,Sem.run_pure,Result.andThen,storeVar,sizeOf,typeInfo,q7,zgm];simp at h;simp [h,hq,hs]
theorem cw.setRow {w:World} {g:Nat} {F F':Nat -> Sl} (A:cw w g F):cw (w.setRow g (SA F')) g F':=setRow_heap w g _ _ _ _ A
theorem Ir {fn:Func} {p:Tmp} {w:World} {g:Nat} {F:Nat -> Sl} (h:fn.results=#[.cell p 113]) {tmps:Array Value} (hp:tmps.getD p undef = .pointer (some ⟨g,0,none⟩)) (A:cw w g F) :
  (results fn tmps).run Tryz.prog w = .ok (SAv F) w:=by
 have hl:=zcI A;simp only [results,h];rw [Array.getD_eq_getD_getElem?] at hp;simp [hp,asAddr,hl]

def blk (s:Sl):Option Nat:=s.ao.map (·.block)
theorem xR (s:Sl):(Value.slice s.ao s.n s.cap).ownBlock=blk s:=by
 cases s with | mk ao n c L=>cases ao <;> rfl
structure cR (B:Nat) (W:World) (F:Nat -> Sl):Prop where
 own:∀ r,r < 16 -> W.ownsRow B 139 2 (.slice (F r).ao (F r).n (F r).cap) (F r).n (rcs (F r).L)
 apart:∀ r s,r < 16 -> s < 16 -> r≠s -> ∀ k,blk (F r)=some k -> blk (F s)≠some k
def Off (F:Nat -> Sl) (q:Nat):Prop:=∀ r,r < 16 -> blk (F r)≠some q
theorem cR.nil (B:Nat) (W:World):cR B W (fun _=>sl0):=⟨fun _ _=>World.ownsRow_nil _ _ _ _,fun _ _ _ _ _ k h=>by cases h⟩
theorem cR.lt {B:Nat} {W:World} {F:Nat -> Sl} (O:cR B W F) {r k:Nat} (hr:r < 16) (h:blk (F r)=some k):B <= k/\k < W.heap.size:=(O.own r hr).lt k (by rw [xR];exact h)
theorem cR.off {B:Nat} {W:World} {F:Nat -> Sl} (O:cR B W F) (q:Nat) (h:q < B∨W.heap.size <= q):Off F q:=fun r hr e=>by have:=O.lt hr e;omega
theorem cR.kept {B:Nat} {W W':World} {F:Nat -> Sl} (O:cR B W F) (h:∀ q,q < W.heap.size -> ¬ Off F q -> W'.heap[q]? = W.heap[q]?):cR B W' F:=by
 refine ⟨fun r hr=>⟨(O.own r hr).1,?_⟩,O.apart⟩;rcases (O.own r hr).2 with h0 | ⟨g,cap2,cur,hv,dV,dB,rr⟩
 ·exact Or.inl h0
 ·refine Or.inr ⟨g,cap2,cur,hv,dV,(h g (Array.getElem?_eq_some_iff.1 dB).1 (fun ho=>ho r hr ?_)).trans dB,rr⟩;rw [<- xR,hv];rfl
theorem cR.below {B:Nat} {W W':World} {F:Nat -> Sl} (O:cR B W F) (hb:Below W.heap.size W W'):cR B W' F:=O.kept fun q hq _=>hb.block q hq
theorem cR.len {B:Nat} {W:World} {F:Nat -> Sl} (O:cR B W F) {r:Nat} (hr:r < 16):(F r).L.length=(F r).n:=by
 have:=(O.own r hr).1;rw [qm] at this;omega
theorem cR.src {B:Nat} {W:World} {F:Nat -> Sl} (O:cR B W F) (hB:B <= W.heap.size) {r:Nat} (hr:r < 16) (hl:(F r).n <= 8796093022207):aU W (F r).ao (F r).n (F r).cap (F r).L:=by
 have h:=O.own r hr;have e:=O.len hr;rw [<- e] at h;have:=(du.src (B0:=0) (B:=B) (w:=W) ⟨h,Below.refl _ _,hB,Nat.zero_le _⟩ (by omega)).1;rw [e] at this;exact this
theorem cR.grow {B:Nat} {W:World} {F:Nat -> Sl} (O:cR B W F) (hB:B <= W.heap.size) (k:Nat) (hk:k < 16) (e:Rn) (ad:Addr) (h0:W.cell? (ad.add 0)=some (.int .i64 e.lo)) (h1:W.cell? (ad.add 1)=some (.int .i64 e.hi)) (ty:TypeId) (cP:(F k).n < 8796093022207) :
  ∃ g cap2 w2,(Builtin.append_ #[111,111] ty #[.slice (F k).ao (F k).n (F k).cap,.slice (some ad) 1 1]).run Tryz.prog W = .ok (.slice (some ⟨g,0,none⟩) ((F k).n+1) cap2) w2 /\
   cR B w2 (dX F k ⟨some ⟨g,0,none⟩,(F k).n+1,cap2,(F k).L++[e]⟩) /\
   (∀ q,q < W.heap.size -> Off F q -> w2.heap[q]? = W.heap[q]? /\ Off (dX F k ⟨some ⟨g,0,none⟩,(F k).n+1,cap2,(F k).L++[e]⟩) q)/\W.heap.size <= w2.heap.size/\(∀ n0 w,n0 <= B -> Below n0 w W -> Below n0 w w2):=by
 obtain ⟨i0,LT,dn,dm,ef⟩:=info_parts pv
 obtain ⟨v',w2,cO,cp,aC,_,fj⟩:=run_append_own_at (P:=Tryz.prog) W B 111 ty 139 i0 (.agg #[.int .i64 0,.int .i64 0]) 2 16 Tryz.underlying111 LT dn dm ef rfl (by decide) (.slice (F k).ao (F k).n (F k).cap) (F k).n (rcs (F k).L) (O.own k hk) ad 1 1 (RC e).toList rfl
  (fun j u hj=>by
   match j,hj with
   | 0,hj=>cases hj;exact h0
   | 1,hj=>cases hj;exact h1
   | j+2,hj=>simp [RC] at hj)
  (fun u hu=>jE e u hu) (by unfold maxLen;omega) (by omega) hB
 rcases cp.2 with ⟨h0,eU⟩ | ⟨g,cap2,cur,hv,dV,dB,hnc,fw,hcsz,htake⟩
 ·omega
 ·subst hv
  rw [xR] at aC fj
  have CU:blk (F k)=some g∨g=W.heap.size:=by
   rcases fj with h | h
   ·left;rw [<- h];rfl
   ·right;simp [Value.ownBlock] at h;exact h
  have oP:∀ q,q < W.heap.size -> Off F q -> Off (dX F k ⟨some ⟨g,0,none⟩,(F k).n+1,cap2,(F k).L++[e]⟩) q:=by
   intro q hq ho r hr;by_cases hrk:r=k
   ·subst hrk;rw [xt];intro h;have hg:g=q:=Option.some.inj h;rcases CU with h2 | h2
    ·exact ho r hr (by rw [h2,hg])
    ·omega
   ·rw [qv _ _ _ _ hrk];exact ho r hr
  refine ⟨g,cap2,w2,cO,⟨fun r hr=>?_,fun r s hr hs hrs q hq=>?_⟩,fun q hq ho=>⟨aC.block q hq (fun e=>ho k hk e.symm),oP q hq ho⟩,aC.size,fun n0 w hn hb=>hb.grown aC (by omega) (fun q hq=>by have:=(O.lt hk hq).1;omega)⟩
  ·by_cases hrk:r=k
   ·subst hrk;rw [xt]
    show w2.ownsRow B _ 2 (.slice (some ⟨g,0,none⟩) ((F r).n+1) cap2) ((F r).n+1) (rcs ((F r).L++[e]))
    rw [xj,jY];exact cp
   ·rw [qv _ _ _ _ hrk];refine ⟨(O.own r hr).1,?_⟩;rcases (O.own r hr).2 with h0 | ⟨g2,cap3,cur2,hv,hbg2,hgg2,rr⟩
    ·exact Or.inl h0
    ·have mp:blk (F r)=some g2:=by rw [<- xR,hv];rfl
     exact Or.inr ⟨g2,cap3,cur2,hv,hbg2,(aC.block g2 (O.lt hr mp).2 (fun e=>O.apart r k hr hk hrk g2 mp e.symm)).trans hgg2,rr⟩
  ·have key:∀ x,x < 16 -> x≠k -> blk (F x)≠some g:=by
    intro x hx hxk h;rcases CU with h2 | h2
    ·exact O.apart x k hx hk hxk g h h2
    ·have:=(O.lt hx h).2;omega
   by_cases hrk:r=k
   ·subst hrk;rw [xt] at hq;rw [qv _ _ _ _ (fun h=>hrs h.symm)];have hg:g=q:=Option.some.inj hq;rw [<- hg];exact key s hs (fun h=>hrs h.symm)
   ·rw [qv _ _ _ _ hrk] at hq;by_cases gL:s=k
    ·subst gL;rw [xt];intro h;have hg:g=q:=Option.some.inj h;rw [<- hg] at hq;exact key r hr hrk hq
    ·rw [qv _ _ _ _ gL];exact O.apart r s hr hs hrs q hq
theorem cR.append {B:Nat} {W:World} {F:Nat -> Sl} (O:cR B W F) (hB:B <= W.heap.size) (k:Nat) (hk:k < 16) (e:Rn) (C:Array Value) (hC:C=RC e) (cP:(F k).n < 8796093022207)
  {ops:Array Oper} {rest:List Oper} {o:Oper} {a:Act} {Q:Exit -> Act -> World -> Prop} (hgd:o.guard=none) (s x:Operand) (ho:o.op = .call { callee:=.builtin .append,args:=#[s,x],argTypes:=#[111,111] })
  (ao:Option Addr) (n cap:Nat) (hf:(F k).ao=ao/\(F k).n=n/\(F k).cap=cap) (hs:a.eval s = .slice ao n cap) (hx:a.eval x = .slice (some ⟨W.heap.size,0,none⟩) 1 1)
  (hK:∀ (g cap2:Nat) (w2:World),cR B w2 (dX F k ⟨some ⟨g,0,none⟩,n+1,cap2,(F k).L++[e]⟩) -> (∀ q,q < W.heap.size -> Off F q -> w2.heap[q]? = W.heap[q]? /\ Off (dX F k ⟨some ⟨g,0,none⟩,n+1,cap2,(F k).L++[e]⟩) q) -> W.heap.size < w2.heap.size -> (∀ n0 w,n0 <= B -> Below n0 w W -> Below n0 w w2) -> wpList Tryz.prog ops Q rest (a.put o.dst (.slice (some ⟨g,0,none⟩) (n+1) cap2)) w2) :
  wpList Tryz.prog ops Q (o :: rest) a (W.alloc (.cells C 139)):=by
 subst hC;obtain ⟨rfl,rfl,rfl⟩:=hf;have hO:cR B (W.alloc (.cells (RC e) 139)) F:=O.below (ze W _)
 have c:∀ t,(W.alloc (.cells (RC e) 139)).cell? ((⟨W.heap.size,0,none⟩:Addr).add t)=(RC e)[t]?:=fun t=>by rw [Addr.add_lit,Nat.zero_add,World.cell?_alloc_new]
 obtain ⟨g,cap2,w2,cO,h1,h2,h3,h4⟩:=hO.grow (by simp;omega) k hk e ⟨W.heap.size,0,none⟩ ((c 0).trans rfl) ((c 1).trans rfl) o.type cP;refine wpList_plain hgd fun K hK'=>?_;unfold Oper.wp execOp;simp only [ho,resolve,invoke,builtin,Sem.run_bind,Sem.run_pure,Result.andThen_ok,List.map_toArray,List.map_cons,List.map_nil,hs,hx,cO];simp only [World.size_alloc] at h2 h3;refine hK' _ _ (hK g cap2 w2 h1 (fun q hq ho=>?_) (by omega) (fun n0 w hn hb=>h4 n0 w hn (hb.alloc (by omega) _)));have:=h2 q (by omega) ho;exact ⟨this.1.trans (Below.heap_alloc _ _ _ hq),this.2⟩
theorem cR.step {B:Nat} {W:World} {F:Nat -> Sl} (O:cR B W F) (hB:B <= W.heap.size) (k:Nat) (hk:k < 16) (e:Rn) (C:Array Value) (hC:C=RC e) (cP:(F k).n < 8796093022207)
  {ops:Array Oper} {o:Oper} {a:Act} {K:Act -> World -> Prop} {Q:Exit -> Act -> World -> Prop} {E:Prop} (hgd:o.guard=none) (s x:Operand) (ho:o.op = .call { callee:=.builtin .append,args:=#[s,x],argTypes:=#[111,111] })
  (ao:Option Addr) (n cap:Nat) (hf:(F k).ao=ao/\(F k).n=n/\(F k).cap=cap) (hs:a.eval s = .slice ao n cap) (g0:Nat) (hg0:W.heap.size=g0) (hx:a.eval x = .slice (some ⟨g0,0,none⟩) 1 1)
  (hK:∀ (g cap2:Nat) (w2:World),cR B w2 (dX F k ⟨some ⟨g,0,none⟩,n+1,cap2,(F k).L++[e]⟩) -> (∀ q,q < W.heap.size -> Off F q -> w2.heap[q]? = W.heap[q]? /\ Off (dX F k ⟨some ⟨g,0,none⟩,n+1,cap2,(F k).L++[e]⟩) q) -> W.heap.size < w2.heap.size -> (∀ n0 w,n0 <= B -> Below n0 w W -> Below n0 w w2) -> K (a.put o.dst (.slice (some ⟨g,0,none⟩) (n+1) cap2)) w2) :
  if Region.wanted o (yielded ops a.tmps)=true then Oper.wp Tryz.prog o a (W.alloc (.cells C 139)).drew K Q else E:=by
 have hw:Region.wanted o (yielded ops a.tmps)=true:=by simp [Region.wanted,hgd]
 rw [if_pos hw];subst hC hg0;obtain ⟨rfl,rfl,rfl⟩:=hf;have hO:cR B (W.alloc (.cells (RC e) 139)).drew F:=(O.below (ze W _)).below (zd _)
 have c:∀ t,(W.alloc (.cells (RC e) 139)).drew.cell? ((⟨W.heap.size,0,none⟩:Addr).add t)=(RC e)[t]?:=fun t=>by
  rw [Addr.add_lit,Nat.zero_add]
  show (W.alloc _).cell? _=_
  rw [World.cell?_alloc_new]
 have hz:(W.alloc (.cells (RC e) 139)).drew.heap.size=W.heap.size+1:=by show (W.alloc _).heap.size=_;simp
 obtain ⟨g,cap2,w2,cO,h1,h2,h3,h4⟩:=hO.grow (by omega) k hk e ⟨W.heap.size,0,none⟩ ((c 0).trans rfl) ((c 1).trans rfl) o.type cP;unfold Oper.wp;simp [execOp,ho,resolve,invoke,builtin,hs,hx,cO,Result.andThen];rw [hz] at h2 h3;refine hK g cap2 w2 h1 (fun q hq ho=>?_) (by omega) (fun n0 w hn hb=>h4 n0 w hn ((hb.alloc (by omega) _).trans ((zd _).mono (by simp;omega))));have:=h2 q (by omega) ho;exact ⟨this.1.trans (Below.heap_alloc _ _ _ hq),this.2⟩
end
section
open Go.RowKit

def aQ (z:Int):List Rn:=if 0 < z then [⟨1,z⟩] else []
def ag (L:List Sn) (r:Nat):List Rn:=(L.filter (fun c=>decide (c.rep=(r:Int)))).map (fun c=>⟨c.lo,c.hi⟩)
def aa (p:Pst) (r:Nat):List Rn:=aQ (V.at' p.vec r)++ag p.cloud r
def aA:List Pv -> Nat -> List Rn
 | [],_=>[]
 | p :: X,r=>aa p.P r++aA X r
def wt:List Pv -> Nat
 | []=>0
 | p :: X=>1+p.P.cloud.length+wt X
theorem yF (X Y:List Pv) (r:Nat):aA (X++Y) r=aA X r++aA Y r:=by
 induction X with
 | nil=>rfl
 | cons p X ih=>simp only [List.cons_append,aA,ih,List.append_assoc]
theorem xi (p:Pv) (r:Nat):aA [p] r=aa p.P r:=by simp [aA]
theorem vz (X Y:List Pv):wt (X++Y)=wt X+wt Y:=by
 induction X with
 | nil=>simp [wt]
 | cons p X ih=>simp only [List.cons_append,wt,ih];omega
theorem vB (z:Int):(aQ z).length <= 1:=by unfold aQ;split <;> simp
theorem kw (L:List Sn) (r:Nat):(ag L r).length <= L.length:=by unfold ag;rw [List.length_map];exact List.length_filter_le _ _
theorem xZ (L:List Sn) (c:Sn) (r:Nat):ag (L++[c]) r=if c.rep=(r:Int) then ag L r++[⟨c.lo,c.hi⟩] else ag L r:=by
 unfold ag;by_cases h:c.rep=(r:Int)
 ·simp [h]
 ·simp [h]
theorem kC (X:List Pv) (r:Nat):(aA X r).length <= wt X:=by
 induction X with
 | nil=>simp [aA]
 | cons p X ih =>
  have h1:=vB (V.at' p.P.vec r);have h2:=kw p.P.cloud r;simp only [aA,aa,wt,List.length_append];omega
theorem bw {X:List Pv} {k:Nat} {p:Pv} (hs:X[k]? = some p):X.take (k+1)=X.take k++[p]:=by
 rw [List.take_add_one,hs];rfl
theorem zg0 {X:List Pv} {k:Nat} {p:Pv} (hs:X[k]? = some p):wt (X.take k)+(1+p.P.cloud.length) <= wt X:=by
 have h:=congrArg wt (List.take_append_drop (k+1) X);rw [vz,bw hs,vz] at h;simp only [wt] at h;omega
structure fh (w W:World) (F:Nat -> Sl) (G:Nat -> List Rn):Prop where
 z:cw W w.heap.size (fun _=>sl0)
 s:cw W (w.heap.size+1) F
 o:cR (w.heap.size+2) W F
 l:∀ r,r < 16 -> (F r).L=G r
 b:Below w.heap.size w W
 h:w.heap.size+2 <= W.heap.size
theorem fh.on {w W W':World} {F:Nat -> Sl} {G:Nat -> List Rn} (I:fh w W F G) (hb:Below W.heap.size W W'):fh w W' F G:=
 ⟨I.z.below hb,I.s.below hb,I.o.below hb,I.l,I.b.trans (hb.mono I.b.size),Nat.le_trans I.h hb.size⟩
theorem fh.congr {w W:World} {F:Nat -> Sl} {G G':Nat -> List Rn} (I:fh w W F G) (h:∀ r,r < 16 -> G r=G' r):fh w W F G':=
 ⟨I.z,I.s,I.o,fun r hr=>(I.l r hr).trans (h r hr),I.b,I.h⟩
theorem fh.len {w W:World} {F:Nat -> Sl} {G:Nat -> List Rn} (I:fh w W F G) {r:Nat} (hr:r < 16):(F r).n=(G r).length:=by rw [<- I.l r hr,I.o.len hr]
theorem fh.off {w W:World} {F:Nat -> Sl} {G:Nat -> List Rn} (I:fh w W F G) (q:Nat) (h:q < w.heap.size+2∨W.heap.size <= q):Off F q:=I.o.off q h
theorem fh.mid {w W w2:World} {F F':Nat -> Sl} {G:Nat -> List Rn} (I:fh w W F G) (h2:∀ q,q < W.heap.size -> Off F q -> w2.heap[q]? = W.heap[q]? /\ Off F' q):cw w2 (w.heap.size+1) F:=
 ((h2 _ (by have:=I.h;omega) (I.off _ (Or.inl (by omega)))).1).trans I.s
theorem fh.push {w W w2:World} {F:Nat -> Sl} {G:Nat -> List Rn} (I:fh w W F G) (k:Nat) (hk:k < 16) (e:Rn) (n cap2 g:Nat)
  (O2:cR (w.heap.size+2) w2 (dX F k ⟨some ⟨g,0,none⟩,n+1,cap2,(F k).L++[e]⟩)) (h2:∀ q,q < W.heap.size -> Off F q -> w2.heap[q]? = W.heap[q]? /\ Off (dX F k ⟨some ⟨g,0,none⟩,n+1,cap2,(F k).L++[e]⟩) q) (h3:W.heap.size < w2.heap.size) (h4:∀ n0 w0,n0 <= w.heap.size+2 -> Below n0 w0 W -> Below n0 w0 w2) (v:Value) (hv:v = .slice (some ⟨g,0,none⟩) (n+1) cap2) :
  fh w (w2.setCell ⟨w.heap.size+1,k,none⟩ v) (dX F k ⟨some ⟨g,0,none⟩,n+1,cap2,(F k).L++[e]⟩) (fun r=>if r=k then G r++[e] else G r):=by
 have hh:=I.h
 have other:∀ q,q≠w.heap.size+1 -> (w2.setCell ⟨w.heap.size+1,k,none⟩ v).heap[q]? = w2.heap[q]?:=fun q hq=>by
  simp [World.setCell,Array.getElem?_modify,show ¬ w.heap.size+1=q by omega]
 refine ⟨?_,(I.mid h2).set k _ v hv,O2.kept (fun q hq hno=>other q (fun e=>hno ?_)),fun r hr=>?_,?_,?_⟩
 ·exact (other _ (by omega)).trans (((h2 _ (by omega) (I.off _ (Or.inl (by omega)))).1).trans I.z)
 ·rw [e];exact O2.off _ (Or.inl (by omega))
 ·by_cases h:r=k
  ·subst h;rw [xt,if_pos rfl,<- I.l r hr]
  ·rw [qv _ _ _ _ h,if_neg h,<- I.l r hr]
 ·exact V.xe (h4 _ _ (by omega) I.b) (by simp)
 ·have:(w2.setCell ⟨w.heap.size+1,k,none⟩ v).heap.size=w2.heap.size:=by simp [World.setCell]
  omega
theorem kl {W w2:World} {F F':Nat -> Sl} {q B k:Nat} {v:Value} (h2:∀ q,q < W.heap.size -> Off F q -> w2.heap[q]? = W.heap[q]? /\ Off F' q) (hq:q < W.heap.size) (ho:Off F q) (aT:B≠q):(w2.setCell ⟨B,k,none⟩ v).heap[q]? = W.heap[q]? /\ Off F' q:=by
 refine ⟨?_,(h2 q hq ho).2⟩;rw [<- (h2 q hq ho).1];simp [World.setCell,Array.getElem?_modify,aT]
theorem zdZ {A:Nat -> List Rn} {f:Nat -> Int} {j:Nat} {z:Int} (hz:f j=z) (h0:0 < z) (r:Nat):(if r=j then (A r++(if r < j then aQ (f r) else []))++[⟨1,z⟩] else A r++(if r < j then aQ (f r) else []))=A r++(if r < j+1 then aQ (f r) else []):=by
 by_cases h:r=j
 ·subst h;simp [aQ,hz,h0]
 ·by_cases h':r < j
  ·simp [h,h',show r < j+1 by omega]
  ·simp [h,h',show ¬ r < j+1 by omega]
theorem zd0 {A:Nat -> List Rn} {f:Nat -> Int} {j:Nat} {z:Int} (hz:f j=z) (h0:¬ 0 < z) (r:Nat):A r++(if r < j then aQ (f r) else [])=A r++(if r < j+1 then aQ (f r) else []):=by
 by_cases h:r=j
 ·subst h;simp [aQ,hz,h0]
 ·by_cases h':r < j
  ·simp [h',show r < j+1 by omega]
  ·simp [h',show ¬ r < j+1 by omega]
theorem zci {A:Nat -> List Rn} {L:List Sn} {c:Sn} {q:Nat} (hc:c.rep=(q:Int)) (r:Nat):(if r=q then (A r++ag L r)++[⟨c.lo,c.hi⟩] else A r++ag L r)=A r++ag (L++[c]) r:=by
 rw [xZ];by_cases h:r=q
 ·subst h;simp [hc]
 ·have:¬ c.rep=(r:Int):=by rw [hc];omega
  simp [h,this]
theorem zcj {A:Nat -> List Rn} {L:List Sn} {c:Sn} (hc:V.isR c.rep=false) (r:Nat) (hr:r < 16):A r++ag L r=A r++ag (L++[c]) r:=by
 rw [xZ]
 have:¬ c.rep=(r:Int):=by
  intro e;rw [e] at hc;simp [V.isR] at hc;omega
 simp [this]
structure cX (lo:Nat) (W:World) (F:Nat -> Sl) (G:Nat -> List Rn):Prop where
 src:∀ r,r < 16 -> aU W (F r).ao (F r).n (F r).cap (F r).L
 eq:∀ r,r < 16 -> (F r).L=G r
 lo:∀ r,r < 16 -> ∀ ad,(F r).ao=some ad -> lo <= ad.block
 hi:∀ r,r < 16 -> ∀ ad,(F r).ao=some ad -> ad.block < W.heap.size
theorem je {w w':World} {ao:Option Addr} {n c:Nat} {L:List Rn} (h:aU w ao n c L) (hk:∀ ad,ao=some ad -> w'.heap[ad.block]? = w.heap[ad.block]?):aU w' ao n c L:=by
 refine ⟨h.len,h.nil,fun ad ha t ht=>?_,h.cap,h.room,h.big⟩;have A:=h.cell ad ha t ht
 have e:∀ m,w'.cell? (ad.add m)=w.cell? (ad.add m):=fun m=>by unfold World.cell?;rw [zp,hk ad ha]
 exact ⟨by rw [e];exact A.c0,by have:=A.c1;rw [qt] at this ⊢;rw [e];exact this⟩
theorem cX.below {lo:Nat} {W W':World} {F:Nat -> Sl} {G:Nat -> List Rn} (h:cX lo W F G) (hb:Below W.heap.size W W'):cX lo W' F G:=
 ⟨fun r hr=>(h.src r hr).below hb,h.eq,h.lo,fun r hr ad e=>Nat.lt_of_lt_of_le (h.hi r hr ad e) hb.size⟩
def dF (F:Nat -> Sl) (g:Nat):Prop:=∀ r,r < 16 -> ∀ ad,(F r).ao=some ad -> ad.block≠g
theorem cX.off {lo:Nat} {W:World} {F:Nat -> Sl} {G:Nat -> List Rn} (h:cX lo W F G) {g:Nat} (hg:dF F g) (cs:Array Value):cX lo (W.setRow g cs) F G:=
 ⟨fun r hr=>je (h.src r hr) (fun ad e=>setRow_other _ _ _ _ (hg r hr ad e)),h.eq,h.lo,fun r hr ad e=>by have:=h.hi r hr ad e;simpa [World.setRow] using this⟩
def Ac (w w':World) (e:Ending) (G:Nat -> List Rn):Prop:=∃ F,e = .returned (SAv F)/\cX w.heap.size w' F G/\Below w.heap.size w w'
end
section
open Go.RowKit

def BIf (x:Bool) (P:Prop):Prop:=x=true↔P
theorem BIf.out {x:Bool} {P:Prop} (h:BIf x P):x=true↔P:=h
theorem BIf.yes {P:Prop} (h:P):BIf true P:=⟨fun _=>h,fun _=>rfl⟩
theorem BIf.no {P:Prop} (h:¬ P):BIf false P:=⟨(fun e=>by cases e),fun e=>absurd e h⟩
def dr (w w':World) (e:Ending) (P:Prop):Prop:=∃ b,e = .returned (.bool b)/\BIf b P/\Below w.heap.size w w'
def cu (P:Pst) (d:Rn):Prop:=V.isR d.lo=true/\mem (aa P d.lo.toNat) d.hi
theorem jN (P:Pst) (r:Nat) (hr:r < 16) (n:Int):mem (aa P r) n↔1 <= n/\n <= 1000000000/\(n <= P.vec.getD r 0∨∃ c,c∈P.cloud/\c.rep=(r:Int)/\c.lo <= n/\n <= c.hi):=by
 unfold aa;rw [mem_append]
 have hv:mem (aQ (V.at' P.vec r)) n↔1 <= n/\n <= 1000000000/\n <= P.vec.getD r 0:=by
  unfold aQ V.at' V.dK;rw [if_pos hr];generalize P.vec.getD r 0=z;by_cases h1:z < 0
  ·simp only [if_pos h1];rw [if_neg (by omega)];exact ⟨fun h=>absurd h (qN n),fun h=>by omega⟩
  ·by_cases h2:1000000000 < z
   ·simp only [if_neg h1,if_pos h2];rw [if_pos (by omega),qq];exact ⟨fun h=>by simp only at h;omega,fun h=>by simp only;omega⟩
   ·simp only [if_neg h1,if_neg h2];by_cases h3:0 < z
    ·rw [if_pos h3,qq];exact ⟨fun h=>by simp only at h;omega,fun h=>by simp only;omega⟩
    ·rw [if_neg h3];exact ⟨fun h=>absurd h (qN n),fun h=>by omega⟩
 have hc:mem (ag P.cloud r) n↔1 <= n/\n <= 1000000000/\∃ c,c∈P.cloud/\c.rep=(r:Int)/\c.lo <= n/\n <= c.hi:=by
  unfold ag mem;refine and_congr_right fun _=>and_congr_right fun _=>?_;constructor
  ·rintro ⟨x,hx,e⟩;obtain ⟨c,hc,rfl⟩:=List.mem_map.1 hx;obtain ⟨h1,h2⟩:=List.mem_filter.1 hc;exact ⟨c,h1,of_decide_eq_true h2,e⟩
  ·rintro ⟨c,hc,h1,h2⟩;exact ⟨⟨c.lo,c.hi⟩,List.mem_map.2 ⟨c,List.mem_filter.2 ⟨hc,decide_eq_true h1⟩,rfl⟩,h2⟩
 rw [hv,hc];constructor
 ·rintro (⟨h1,h2,h3⟩ | ⟨h1,h2,h3⟩)
  ·exact ⟨h1,h2,Or.inl h3⟩
  ·exact ⟨h1,h2,Or.inr h3⟩
 ·rintro ⟨h1,h2,h3 | h3⟩
  ·exact Or.inl ⟨h1,h2,h3⟩
  ·exact Or.inr ⟨h1,h2,h3⟩
theorem qB (P:Pst) (d:Rn):cu P d↔0 <= d.lo/\d.lo < 16/\1 <= d.hi/\d.hi <= 1000000000/\(d.hi <= P.vec.getD d.lo.toNat 0∨∃ c,c∈P.cloud/\c.rep=d.lo/\c.lo <= d.hi/\d.hi <= c.hi):=by
 unfold cu;by_cases h:0 <= d.lo/\d.lo < 16
 ·have e:V.isR d.lo=true:=by simp [V.isR];exact h
  have e2:((d.lo.toNat:Nat):Int)=d.lo:=by omega
  rw [jN P _ (by omega),e2];simp [e,h.1,h.2]
 ·have e:¬ V.isR d.lo=true:=by simp [V.isR];omega
  exact ⟨fun g=>absurd g.1 e,fun g=>absurd ⟨g.1,g.2.1⟩ h⟩
def Ih (d:Rn) (c:Sn):Prop:=c.rep=d.lo/\c.lo <= d.hi/\d.hi <= c.hi
end
section
open Go.RowKit

def sB (p:Pst) (r:Nat):List Rn:=(if r < p.vec.length then [⟨1,p.vec.getD r 0⟩] else [])++ag p.cloud r
def D7:List Pv -> Nat -> List Rn
 | [],_=>[]
 | p :: X,r=>sB p.P r++D7 X r
section
variable {w W w2 : World} {F : Nat -> Si} {G H : Nat -> List Rn} {k n cap2 g : Nat} {e : Int} {v : Value}
end
end
section
open Go.RowKit

theorem oe.src {B:Nat} {W:World} {F:Nat -> Si} (O:oe B W F) (hB:B <= W.heap.size) {r:Nat} (hr:r < 32):V.Src W (F r).ao (F r).n (F r).cap (F r).L:=by
 have hl:=O.len hr;have h:eB 0 B W W (F r).ao (F r).cap (F r).L:=⟨by rw [hl];exact O.own r hr,Below.refl _ _,hB,Nat.zero_le _⟩;have:=h.src.1;rw [hl] at this;exact this
end
section
open Go.RowKit
attribute [local go_sem ↓] qX xu
attribute [local go_sem] xv q8 qS qi xW qy
def DJ (w w':World) (e:Ending) (G:Nat -> List Rn):Prop:=∃ (T:Nat -> Si) (N:Nat -> List Rn),e = .returned (JAv T)/\(∀ r,r < 16 -> V.Src w' (T r).ao (T r).n (T r).cap (tn (N r))/\(∀ ad,(T r).ao=some ad -> w.heap.size <= ad.block)/\aZ (G r) (N r))/\Below w.heap.size w w'
def vp (p:Pst) (j r:Nat):List Rn:=if r < j then [⟨1,p.vec.getD r 0⟩] else []
end
end Go.Proofs.YtcilfelgpmfehaaGreat
namespace Go.Proofs
open Go.Shelf
def Tryz.sortR_ren:Go.Shelf.Ren:=⟨fun | 6=>168 | 15=>124 | 14=>189 | 28=>163 | 29=>164 | 20=>207 | 21=>208 | 22=>209 | 23=>210 | 24=>211 | 25=>212 | 26=>213 | 27=>214 | 46=>220 | 47=>184 | 48=>185 | 49=>221 | 50=>222 | 57=>224 | n=>n,fun | 22=>111 | 24=>139 | 25=>205 | 3=>3 | 39=>171 | 0=>0 | 53=>199 | 55=>201 | 4=>4 | 46=>193 | 45=>192 | 50=>179 | 5=>5 | 9=>9 | 66=>214 | 70=>218 | 76=>230 | 77=>125 | n=>n,fun | n=>n⟩
theorem Tryz.sortR:Go.Proofs.SlLaysF0.n6 Tryz.prog Tryz.sortR_ren:={
 mixed:=by kernel_rfl
 f6:=⟨Tryz.f168.name,by decide,Tryz.func168.trans (congrArg some (by kernel_rfl))⟩
 f14:=⟨Tryz.f189.name,by decide,Tryz.func189.trans (congrArg some (by kernel_rfl))⟩
 f15:=Tryz.func124.trans (congrArg some (by kernel_rfl))
 f20:=⟨Tryz.f207.name,by decide,Tryz.func207.trans (congrArg some (by kernel_rfl))⟩
 f21:=⟨Tryz.f208.name,by decide,Tryz.func208.trans (congrArg some (by kernel_rfl))⟩
 f22:=⟨Tryz.f209.name,by decide,Tryz.func209.trans (congrArg some (by kernel_rfl))⟩
 f23:=⟨Tryz.f210.name,by decide,Tryz.func210.trans (congrArg some (by kernel_rfl))⟩
 f24:=⟨Tryz.f211.name,by decide,Tryz.func211.trans (congrArg some (by kernel_rfl))⟩
 f25:=⟨Tryz.f212.name,by decide,Tryz.func212.trans (congrArg some (by kernel_rfl))⟩
 f26:=⟨Tryz.f213.name,by decide,Tryz.func213.trans (congrArg some (by kernel_rfl))⟩
 f27:=⟨Tryz.f214.name,by decide,Tryz.func214.trans (congrArg some (by kernel_rfl))⟩
 f28:=Tryz.func163.trans (congrArg some (by kernel_rfl))
 f29:=Tryz.func164.trans (congrArg some (by kernel_rfl))
 f46:=⟨Tryz.f220.name,by decide,Tryz.func220.trans (congrArg some (by kernel_rfl))⟩
 f47:=Tryz.func184.trans (congrArg some (by kernel_rfl))
 f48:=Tryz.func185.trans (congrArg some (by kernel_rfl))
 f49:=⟨Tryz.f221.name,by decide,Tryz.func221.trans (congrArg some (by kernel_rfl))⟩
 f50:=⟨Tryz.f222.name,by decide,Tryz.func222.trans (congrArg some (by kernel_rfl))⟩
 f57:=⟨Tryz.f224.name,by decide,Tryz.func224.trans (congrArg some (by kernel_rfl))⟩
 t0:=Tryz.underlying0
 a0:=Tryz.isAgg0
 z0:=Tryz.sizeOf0
 v0:=Tryz.zeroValue0
 t3:=Tryz.underlying3
 a3:=Tryz.isAgg3
 z3:=Tryz.sizeOf3
 v3:=Tryz.zeroValue3
 t4:=Tryz.underlying4
 a4:=Tryz.isAgg4
 z4:=Tryz.sizeOf4
 v4:=Tryz.zeroValue4
 t5:=Tryz.underlying5
 a5:=Tryz.isAgg5
 z5:=Tryz.sizeOf5
 v5:=Tryz.zeroValue5
 t9:=Tryz.underlying9
 a9:=Tryz.isAgg9
 z9:=Tryz.sizeOf9
 v9:=Tryz.zeroValue9
 t22:=Tryz.underlying111
 a22:=Tryz.isAgg111
 z22:=Tryz.sizeOf111
 v22:=Tryz.zeroValue111
 t25:=Tryz.underlying205
 a25:=Tryz.isAgg205
 z25:=Tryz.sizeOf205
 v25:=Tryz.zeroValue205
 t39:=Tryz.underlying171
 a39:=Tryz.isAgg171
 z39:=Tryz.sizeOf171
 v39:=Tryz.zeroValue171
 t45:=Tryz.underlying192
 a45:=Tryz.isAgg192
 z45:=Tryz.sizeOf192
 v45:=Tryz.zeroValue192
 t46:=Tryz.underlying193
 a46:=Tryz.isAgg193
 z46:=Tryz.sizeOf193
 v46:=Tryz.zeroValue193
 t50:=Tryz.underlying179
 a50:=Tryz.isAgg179
 z50:=Tryz.sizeOf179
 v50:=Tryz.zeroValue179
 t53:=Tryz.underlying199
 a53:=Tryz.isAgg199
 z53:=Tryz.sizeOf199
 v53:=Tryz.zeroValue199
 t55:=Tryz.underlying201
 a55:=Tryz.isAgg201
 z55:=Tryz.sizeOf201
 v55:=Tryz.zeroValue201
 t66:=Tryz.underlying214
 a66:=Tryz.isAgg214
 z66:=Tryz.sizeOf214
 v66:=Tryz.zeroValue214
 t70:=Tryz.underlying218
 a70:=Tryz.isAgg218
 z70:=Tryz.sizeOf218
 v70:=Tryz.zeroValue218
 t76:=Tryz.underlying230
 a76:=Tryz.isAgg230
 z76:=Tryz.sizeOf230
 v76:=Tryz.zeroValue230
 t77:=Tryz.underlying125
 a77:=Tryz.isAgg125
 z77:=Tryz.sizeOf125
 v77:=Tryz.zeroValue125 }
end Go.Proofs
namespace Go.Proofs.YtcilfelgpmfehaaGreat
open Go.RowKit Go.Sort

def cF (r:Rn):List Value:=(RC r).toList
theorem vu (r:Rn):(cF r).length=2:=rfl
structure MR (W:World) (ad:Addr) (d:Array Rn):Prop where
 hk:HoldsK cF 2 W ad.block 0 d
 lt:ad.block < W.heap.size
 ha:ad=⟨ad.block,0,none⟩
theorem MR.at {W:World} {ad:Addr} {d:Array Rn} (M:MR W ad d) (i:Nat) (hi:i < d.size):fR W (ad.add (i * 2)) d[i]! := by
 have h:∀ c,c < 2 -> W.cell? ⟨ad.block,i * 2+c,none⟩=some (cF d[i]!)[c]! := fun c hc=>by
  have:=(M.hk.cell hi hc).1;rwa [Nat.zero_add] at this
 rw [M.ha,Addr.add_lit,Nat.zero_add];exact ⟨h 0 (by omega),by rw [Addr.add_lit];exact h 1 (by omega)⟩
theorem MR.rsrc {W:World} {ad:Addr} {d:Array Rn} (M:MR W ad d) (n c:Nat) (hn:d.size=n) (hc:n <= c) (fw:c <= maxLen) (hm:n <= 8796093022207):aU W (some ad) n c d.toList:=by
 refine ⟨by simpa using hn,fun h=>(by cases h),fun ad' h t ht=>?_,hc,fw,hm⟩;obtain rfl:=Option.some.inj h
 have e:d.toList.getD t rn0=d[t]! := by
  rw [List.getD,Array.getElem?_toList,Array.getElem?_eq_getElem (by omega),getElem!_pos d t (by omega)];rfl
 rw [e];exact M.at t (by omega)
theorem du.mr {B0 B:Nat} {w w':World} {ad:Addr} {cap:Nat} {acc:List Rn} (O:du B0 B w w' (some ad) cap acc):MR w' ad acc.toArray/\B <= ad.block/\acc.length <= cap/\cap <= maxLen:=by
 rcases O.own.2 with ⟨h0,_⟩ | ⟨g,c,cur,hv,dV,dB,hnc,fw,hcsz,htake⟩
 ·cases h0
 ·simp only [Value.slice.injEq,Option.some.injEq,true_and] at hv;obtain ⟨rfl,rfl⟩:=hv;refine ⟨⟨fun j hj=>?_,(Array.getElem?_eq_some_iff.1 dB).1,rfl⟩,dV,hnc,fw⟩;rw [Sort.size_flatK] at hj
  have IV:j < acc.length * 2:=by simpa using hj
  refine ⟨?_,by simp [World.frozen?,dB]⟩;rw [Nat.zero_add,O.own.cellAt j (by omega),Sort.get_flatK _ _ _ _ hj];have e4:=vQ acc (j / 2) (j % 2) (by omega) (by omega);rw [show j / 2 * 2+j % 2=j by omega] at e4;rw [e4]
  have e5:acc.toArray[j / 2]! = acc.getD (j / 2) rn0:=by
   rw [getElem!_pos acc.toArray (j / 2) (by simp;omega)];simp [List.getD,show j / 2 < acc.length by omega]
  rw [e5]
  have:j % 2=0∨j % 2=1:=by omega
  rcases this with h | h <;> rw [h] <;> rfl
def au (x y:Int):Int:=if x < y then -1 else if y < x then 1 else 0
theorem xK (x:Int) (w:World):Calls Tryz.prog 154 #[.int .i64 x] w fun e w'=>e = .returned (.bool false)/\w'=w:=by
 have h:(x != x)=false:=by simp
 go_enter Tryz.func154,Tryz.ntmps154;go_wp2_with fail;go_ret;exact ⟨by simp,rfl⟩
theorem qQ (x y:Int) (w:World):Calls Tryz.prog 122 #[.int .i64 x,.int .i64 y] w fun e w'=>e = .returned (.int .i64 (au x y))/\w'=w:=by
 by_cases h1:x < y
 ·have HC:Hid (au x y = -1):=by show _=_;unfold au;rw [if_pos h1]
  go_enter Tryz.func122,Tryz.ntmps122;go_wp2_with (go_at_call 154;refine (xK _ _).mono ?_;rintro e w' ⟨rfl,rfl⟩);go_ret;exact ⟨zx HC.out.symm,rfl⟩
 ·by_cases h2:y < x
  ·have HC:Hid (au x y=1):=by show _=_;unfold au;rw [if_neg h1,if_pos h2]
   go_enter Tryz.func122,Tryz.ntmps122;go_wp2_with (go_at_call 154;refine (xK _ _).mono ?_;rintro e w' ⟨rfl,rfl⟩);go_ret;exact ⟨zx HC.out.symm,rfl⟩
  ·have HC:Hid (au x y=0):=by show _=_;unfold au;rw [if_neg h1,if_neg h2]
   go_enter Tryz.func122,Tryz.ntmps122;go_wp2_with (go_at_call 154;refine (xK _ _).mono ?_;rintro e w' ⟨rfl,rfl⟩);go_ret;exact ⟨zx HC.out.symm,rfl⟩
def mL (x y:Rn):Int:=au x.lo y.lo
theorem bi (x y:Rn):ltOf mL x y=decide (x.lo < y.lo):=by
 unfold ltOf mL au;by_cases h1:x.lo < y.lo
 ·simp [h1]
 ·by_cases h2:y.lo < x.lo <;> simp [h1,h2]
theorem ze6:SWO (ltOf mL) where
 irrefl x:=by rw [bi];simp
 trans x y z h1 h2:=by rw [bi] at *;simp at *;omega
 ntrans x y z h1 h2:=by rw [bi] at *;simp at *;omega
def lu (w w':World):Prop:=∃ q os,w'=grow (w.drewN q) os
theorem zeF (w:World) (a b:Obj):lu w ((w.alloc a).alloc b):=by
 refine ⟨0,#[a]++#[b],?_⟩;rw [alloc_eq_grow (w.alloc a) b,alloc_eq_grow w a,grow_grow];rfl
theorem ze7 (x y:Rn) (w:World):Calls Tryz.prog 169 #[.agg #[.int .i64 x.lo,.int .i64 x.hi],.agg #[.int .i64 y.lo,.int .i64 y.hi]] w fun e w'=>e = .returned (.int .i64 (mL x y))/\lu w w':=by
 have HG:=hide (zeF w (.cells #[.int .i64 x.lo,.int .i64 x.hi] 139) (.cells #[.int .i64 y.lo,.int .i64 y.hi] 139));obtain ⟨p,Hp⟩:∃ p,Hid (mL x y=p):=⟨_,rfl⟩
 have HC:Hid (∀ W,Calls Tryz.prog 122 #[.int .i64 x.lo,.int .i64 y.lo] W fun e w'=>e = .returned (.int .i64 p)/\w'=W):=fun W=>by rw [<- Hp.out];exact qQ _ _ W
 rw [Hp.out];go_enter Tryz.func169,Tryz.ntmps169;go_wp2_with (go_at_call 122;refine (HC.out _).mono ?_;rintro e w' ⟨rfl,rfl⟩);go_ret;exact ⟨rfl,HG.out⟩
theorem lz (blk size:Nat) (w:World):CmpLays Tryz.prog 169 #[] cF 2 mL blk 0 size w:=
 fun _ _ _ _ x y=>ze7 x y _
theorem jr (ad:Addr) (cap n:Nat) (d:Array Rn) (w:World) (M:MR w ad d) (hn:d.size=n) (hb:n <= 8796093022207) :
  Calls Tryz.prog 168 #[.slice (some ad) n cap,.func (.func 169) #[] #[]] w fun e w'=>e = .returned (.tuple #[])/\∃ d',d'.toList.Perm d.toList/\d'.toList.Pairwise (fun x y=>x.lo <= y.lo)/\d'.size=n/\MR w' ad d'/\Below ad.block w w':=by
 subst hn;have eg:∀ args w,(callFunc 169 args).run Tryz.prog w = .ok (.enter 169 args) w:=enters_of Tryz.func169 (by kernel_rfl) rfl;have h:=AnyQ.slices_SortFunc Tryz.sortR 2 Tryz.isAgg139 Tryz.sizeOf139 cF (fun _=>rfl) (fun x v hv=>jE x v hv) mL ze6 169 #[] ad.block 0 cap d w eg (lz ad.block d.size w) M.hk M.lt (by omega);rw [<- M.ha] at h;refine Calls.mono h ?_;rintro e w' ⟨rfl,d',m,os,⟨hs,_,hp⟩,t7,rfl⟩;refine ⟨rfl,d',?_,?_,hs,⟨holdsK_sortWorldK_c cF 2 w ad.block 0 d d' m os M.hk M.lt hs,?_,M.ha⟩,?_⟩
 ·have e1:d'.extract 0 d.size=d':=by rw [<- hs];simp
  have e2:d.extract 0 d.size=d:=by simp
  rwa [e1,e2] at hp
 ·rw [List.pairwise_iff_getElem];intro i j hi hj hij;have:=t7 i j (Nat.zero_le _) hij (by rw [<- hs];simpa using hj);rw [bi] at this;rw [getElem!_pos d' j (by simpa using hj),getElem!_pos d' i (by simpa using hi)] at this;simp only [Array.getElem_toList];simp at this;exact this
 ·have:=M.lt
  show ad.block < ((putRow id (Sort.ahead w m) ad.block 0 (flatK cF 2 d')).heap++os).size
  rw [Array.size_append,size_putRow]
  show ad.block < w.heap.size+os.size
  omega
 ·have h1:Below ad.block w (putRow id (Sort.ahead w m) ad.block 0 (flatK cF 2 d')):=Lib.below_putRow (Below.refl _ _) (Nat.le_refl _);refine h1.trans ?_
  have eE:ad.block <= (putRow id (Sort.ahead w m) ad.block 0 (flatK cF 2 d')).heap.size:=by rw [size_putRow];exact Nat.le_of_lt M.lt
  show Below ad.block _ (grow (putRow id (Sort.ahead w m) ad.block 0 (flatK cF 2 d')) os)
  generalize putRow id (Sort.ahead w m) ad.block 0 (flatK cF 2 d')=V at eE;exact ⟨rfl,rfl,rfl,by show _ <= (V.heap++os).size;rw [Array.size_append];omega,fun k hk=>by show (V.heap++os)[k]? = _;rw [Array.getElem?_append_left (by omega)]⟩
theorem pn (ao:Option Addr) (cap:Nat) (w:World):Calls Tryz.prog 168 #[.slice ao 0 cap,.func (.func 169) #[] #[]] w fun e w'=>e = .returned (.tuple #[])/\w'=w:=AnyF.slices_SortFunc_none Tryz.sortR ao cap _ w
end Go.Proofs.YtcilfelgpmfehaaGreat
