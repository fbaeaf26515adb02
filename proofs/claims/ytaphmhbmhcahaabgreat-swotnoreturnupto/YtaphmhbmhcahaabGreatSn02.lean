/- QTp QMp QSo -/
import Derived.Test.YtaphmhbmhcahaabGreatTk
import Derived.Test.YtaphmhbmhcahaabGreatSn01
import Derived.Test.YtaphmhbmhcahaabGreatSn00
set_option maxRecDepth 100000
set_option maxHeartbeats 4000000
namespace Go.Proofs.YtaphmhbmhcahaabGreat
section

def tn:List Rn -> List Int
 | []=>[]
 | r :: t=>r.lo :: (r.hi+1) :: tn t
theorem tn_snoc (R:List Rn) (r:Rn):tn (R++[r])=tn R++[r.lo,r.hi+1]:=by
 induction R with
 | nil=>rfl
 | cons a t ih=>simp [tn,ih]
theorem tn_length (R:List Rn):(tn R).length=2 * R.length:=by
 induction R with
 | nil=>rfl
 | cons a t ih=>simp [tn,ih];omega
def cnt (L:List Int) (n:Int):Nat:=L.countP (fun x=>decide (x <= n))
theorem cnt_perm {L M:List Int} (h:L.Perm M) (n:Int):cnt L n=cnt M n:=h.countP_eq _
theorem cnt_append (L M:List Int) (n:Int):cnt (L++M) n=cnt L n+cnt M n:=by unfold cnt;exact List.countP_append
theorem cnt_one (x n:Int):cnt [x] n=if x <= n then 1 else 0:=by unfold cnt;by_cases h:x <= n <;> simp [h]
theorem cnt_all {L:List Int} {n:Int} (h:∀ x,x∈L -> x <= n):cnt L n=L.length:=by
 unfold cnt;exact List.countP_eq_length.2 (fun x hx=>decide_eq_true (h x hx))
theorem cnt_none {L:List Int} {n:Int} (h:∀ x,x∈L -> n < x):cnt L n=0:=by
 unfold cnt;rw [List.countP_eq_zero];intro x hx;have:=h x hx;simp;omega
theorem cnt_le (L:List Int) (n:Int):cnt L n <= L.length:=List.countP_le_length
theorem cnt_runs:∀ (B:List Rn),(∀ r,r∈B -> r.lo <= r.hi) -> ∀ n,cnt (B.map (fun r=>r.hi+1)) n <= cnt (B.map (fun r=>r.lo)) (n - 1)/\cnt (B.map (fun r=>r.hi+1)) n <= cnt (B.map (fun r=>r.lo)) n/\(cnt (B.map (fun r=>r.hi+1)) n < cnt (B.map (fun r=>r.lo)) n↔∃ r,r∈B/\r.lo <= n/\n <= r.hi)
 | [],_,n=>⟨Nat.le_refl _,Nat.le_refl _,⟨fun h=>by simp [cnt] at h,fun ⟨r,h,_⟩=>by cases h⟩⟩
 | r :: t,h,n=>by
  obtain ⟨h1,h2,h3⟩:=cnt_runs t (fun x hx=>h x (List.mem_cons_of_mem _ hx)) n;have hr:=h r List.mem_cons_self
  have e:∀ (f:Rn -> Int) m,cnt ((r :: t).map f) m=(if f r <= m then 1 else 0)+cnt (t.map f) m:=fun f m=>by
   have:(r :: t).map f=[f r]++t.map f:=rfl;rw [this,cnt_append,cnt_one]
  rw [e,e,e]
  have key:(∃ x,x∈r :: t/\x.lo <= n/\n <= x.hi)↔(r.lo <= n/\n <= r.hi)∨∃ x,x∈t/\x.lo <= n/\n <= x.hi:=by simp
  rw [key,<- h3];by_cases a1:r.hi+1 <= n
  ·rw [if_pos a1,if_pos (by omega),if_pos (by omega)];refine ⟨by omega,by omega,⟨fun g=>Or.inr (by omega),fun g=>?_⟩⟩;rcases g with g | g
   ·omega
   ·omega
  ·rw [if_neg a1];by_cases a2:r.lo <= n
   ·rw [if_pos a2];refine ⟨?_,by omega,⟨fun _=>Or.inl ⟨a2,by omega⟩,fun _=>by omega⟩⟩
    split <;> omega
   ·rw [if_neg a2];refine ⟨?_,by omega,⟨fun g=>Or.inr (by omega),fun g=>?_⟩⟩
    ·split <;> omega
    ·rcases g with g | g
     ·omega
     ·omega
def inR (R:List Rn) (n:Int):Prop:=∃ r,r∈R/\r.lo <= n/\n <= r.hi
theorem inR_snoc (R:List Rn) (r:Rn) (n:Int):inR (R++[r]) n↔inR R n∨(r.lo <= n/\n <= r.hi):=by
 unfold inR;constructor
 ·rintro ⟨x,hx,h⟩;rcases List.mem_append.1 hx with g | g
  ·exact Or.inl ⟨x,g,h⟩
  ·obtain rfl:=List.mem_singleton.1 g;exact Or.inr h
 ·rintro (⟨x,hx,h⟩ | h)
  ·exact ⟨x,List.mem_append_left _ hx,h⟩
  ·exact ⟨r,List.mem_append_right _ (List.mem_singleton.2 rfl),h⟩
theorem form_bd:∀ {R:List Rn} {l:Int},form l R -> ∀ r,r∈R -> l <= r.lo/\r.lo <= r.hi/\r.hi <= 1000000000
 | [],_,_,r,h=>by cases h
 | x :: t,l,h,r,hr=>by
  rcases List.mem_cons.1 hr with e | e
  ·subst e;exact ⟨h.1,h.2.1,h.2.2.1⟩
  ·have:=form_bd h.2.2.2 r e;have h1:=h.1;have h2:=h.2.1;omega
theorem form_top:∀ {q:List Rn} {l:Int} {r x:Rn},form l (q++[r]) -> x∈q++[r] -> x.hi <= r.hi
 | [],_,r,x,_,hx=>by
  obtain rfl:=List.mem_singleton.1 hx;exact Int.le_refl _
 | y :: t,l,r,x,h,hx=>by
  have hl:=form_last h.2.2.2;rcases List.mem_cons.1 hx with e | e
  ·subst e;omega
  ·exact form_top h.2.2.2 e
theorem mem_inR {R:List Rn} (h:form 1 R) (n:Int):mem R n↔inR R n:=by
 constructor
 ·rintro ⟨_,_,h⟩;exact h
 ·rintro ⟨r,hr,h1,h2⟩;have:=form_bd h r hr;exact ⟨by omega,by omega,r,hr,h1,h2⟩
structure SwG (I O:List Int):Prop where
 si:I.Pairwise (· <= ·)
 so:O.Pairwise (· <= ·)
 len:I.length=O.length
 c:∀ n,cnt O n <= cnt I (n - 1)
 lo:∀ x,x∈I -> 1 <= x
 hi:∀ x,x∈O -> x <= 1000000001
structure Sw (I O:List Int) (i j:Nat) (R:List Rn) (s:Option Int):Prop where
 hi:i <= I.length
 hj:j <= O.length
 ij:j <= i
 fm:form 1 R
 st:s=none↔i=j
 cl:s=none -> (∀ n,cnt (O.take j) n < cnt (I.take i) n↔inR R n)/\∀ x,x∈I.drop i -> ∀ q r,R=q++[r] -> r.hi+2 <= x
 op:∀ a,s=some a -> (∀ n,cnt (O.take j) n < cnt (I.take i) n↔inR R n∨a <= n)/\(∀ q r,R=q++[r] -> r.hi+2 <= a)/\1 <= a/\a∈I.take i
 le:∀ x,x∈I.take i++O.take j -> ∀ y,y∈I.drop i++O.drop j -> x <= y
theorem Sw.start (I O:List Int):Sw I O 0 0 [] none:=by
 refine ⟨Nat.zero_le _,Nat.zero_le _,Nat.le_refl _,trivial,⟨fun _=>rfl,fun _=>rfl⟩,fun _=>⟨fun n=>?_,fun x _ q r h=>by simp at h⟩,fun a h=>(by cases h),fun x hx=>by simp at hx⟩;simp [cnt,inR]
theorem take_on' (L:List Int) (i:Nat) (x:Int) (hx:L[i]? = some x):L.take (i+1)=L.take i++[x]/\L.drop i=x :: L.drop (i+1):=by
 obtain ⟨h,e⟩:=List.getElem?_eq_some_iff.1 hx;exact ⟨by rw [List.take_succ_eq_append_getElem h,e],by rw [List.drop_eq_getElem_cons h,e]⟩
theorem sorted_drop {L:List Int} (h:L.Pairwise (· <= ·)) {i:Nat} {x:Int} (hx:L[i]? = some x):∀ y,y∈L.drop i -> x <= y:=by
 intro y hy;have hd:=(take_on' L i x hx).2;have hp:(L.drop i).Pairwise (· <= ·):=h.sublist (List.drop_sublist _ _);rw [hd] at hp hy;rcases List.mem_cons.1 hy with e | e
 ·omega
 ·exact (List.pairwise_cons.1 hp).1 y e
theorem Sw.inn {I O:List Int} {i j:Nat} {R:List Rn} {s:Option Int} (G:SwG I O) (S:Sw I O i j R s) {x:Int} (hx:I[i]? = some x) (hn:∀ y,O[j]? = some y -> x <= y):Sw I O (i+1) j R (some (s.getD x)):=by
 obtain ⟨t1,t2⟩:=take_on' I i x hx;have hil:=(List.getElem?_eq_some_iff.1 hx).1
 have hxd:x∈I.drop i:=by rw [t2];exact List.mem_cons_self
 have hall:∀ z,z∈I.take i++O.take j -> z <= x:=fun z hz=>S.le z hz x (List.mem_append_left _ hxd)
 have e1:∀ n,x <= n -> cnt (O.take j) n=j:=fun n h=>by
  rw [cnt_all (fun z hz=>Int.le_trans (hall z (List.mem_append_right _ hz)) h),List.length_take];have:=S.hj;omega
 have e2:∀ n,x <= n -> cnt (I.take i) n=i:=fun n h=>by
  rw [cnt_all (fun z hz=>Int.le_trans (hall z (List.mem_append_left _ hz)) h),List.length_take];omega
 have hP:∀ n,(cnt (O.take j) n < cnt (I.take (i+1)) n↔(cnt (O.take j) n < cnt (I.take i) n∨x <= n)):=fun n=>by
  rw [t1,cnt_append,cnt_one];by_cases h:x <= n
  ·rw [if_pos h,e1 n h,e2 n h];have:=S.ij;exact ⟨fun _=>Or.inr h,fun _=>by omega⟩
  ·rw [if_neg h,Nat.add_zero];exact ⟨fun g=>Or.inl g,fun g=>g.resolve_right h⟩
 have hmem:x∈I:=List.mem_of_getElem? hx;refine ⟨by omega,S.hj,by have:=S.ij;omega,S.fm,⟨(fun h=>by cases h),fun h=>by have:=S.ij;omega⟩,fun h=>(by cases h),fun a ha=>?_,fun z hz y hy=>?_⟩
 ·cases s with
  | none =>
   have ha':x=a:=by simpa using ha
   subst ha';obtain ⟨c1,c2⟩:=S.cl rfl;exact ⟨fun n=>by rw [hP,c1],fun q r h=>c2 x hxd q r h,G.lo x hmem,by rw [t1];exact List.mem_append_right _ (List.mem_singleton.2 rfl)⟩
  | some b =>
   have ha':b=a:=by simpa using ha
   subst ha';obtain ⟨c1,c2,c3,c4⟩:=S.op b rfl;refine ⟨fun n=>?_,c2,c3,by rw [t1];exact List.mem_append_left _ c4⟩;rw [hP,c1];have hb:=hall b (List.mem_append_left _ c4);constructor
   ·rintro ((g | g) | g)
    ·exact Or.inl g
    ·exact Or.inr g
    ·exact Or.inr (by omega)
   ·exact fun g=>Or.inl g
 ·have hy':x <= y:=by
   rcases List.mem_append.1 hy with g | g
   ·exact sorted_drop G.si hx y (by rw [t2];exact List.mem_cons_of_mem _ g)
   ·cases ho:O[j]? with
    | none =>
     rw [List.drop_of_length_le (by simpa using ho)] at g
     cases g
    | some o=>exact Int.le_trans (hn o ho) (sorted_drop G.so ho y g)
  rw [t1] at hz;rcases List.mem_append.1 hz with g | g
  ·rcases List.mem_append.1 g with g | g
   ·exact Int.le_trans (hall z (List.mem_append_left _ g)) hy'
   ·obtain rfl:=List.mem_singleton.1 g;exact hy'
  ·exact Int.le_trans (hall z (List.mem_append_right _ g)) hy'
theorem Sw.deep {I O:List Int} {i j:Nat} {R:List Rn} {s:Option Int} (G:SwG I O) (S:Sw I O i j R s) {y:Int} (hy:O[j]? = some y) (hn:∀ x,I[i]? = some x -> y < x):j < i/\cnt I (y - 1) <= cnt (I.take i) (y - 1)/\j+1 <= cnt I (y - 1):=by
 obtain ⟨t1,t2⟩:=take_on' O j y hy;have hjl:=(List.getElem?_eq_some_iff.1 hy).1
 have h1:j+1 <= cnt O y:=by
  have e:cnt (O.take (j+1)) y=j+1:=by
   rw [cnt_all (fun z hz=>?_),List.length_take]
   ·omega
   ·rw [t1] at hz;rcases List.mem_append.1 hz with g | g
    ·exact S.le z (List.mem_append_right _ g) y (List.mem_append_right _ (by rw [t2];exact List.mem_cons_self))
    ·obtain rfl:=List.mem_singleton.1 g;exact Int.le_refl _
  have e2:cnt O y=cnt (O.take (j+1)) y+cnt (O.drop (j+1)) y:=by rw [<- cnt_append,List.take_append_drop]
  omega
 have h2:=G.c y
 have h3:cnt I (y - 1)=cnt (I.take i) (y - 1):=by
  have e2:cnt I (y - 1)=cnt (I.take i) (y - 1)+cnt (I.drop i) (y - 1):=by rw [<- cnt_append,List.take_append_drop]
  have e3:cnt (I.drop i) (y - 1)=0:=by
   refine cnt_none (fun z hz=>?_)
   cases hi:I[i]? with
   | none =>
    rw [List.drop_of_length_le (by simpa using hi)] at hz
    cases hz
   | some x =>
    have h4:=hn x hi;have h5:=sorted_drop G.si hi z hz;omega
  omega
 have h4:=cnt_le (I.take i) (y - 1);rw [List.length_take] at h4;omega
theorem Sw.out {I O:List Int} {i j:Nat} {R:List Rn} {a:Int} (G:SwG I O) (S:Sw I O i j R (some a)) {y:Int} (hy:O[j]? = some y) (hn:∀ x,I[i]? = some x -> y < x) :
  (i≠j+1 -> Sw I O i (j+1) R (some a))/\(i=j+1 -> a < y/\Sw I O i (j+1) (R++[⟨a,y - 1⟩]) none):=by
 obtain ⟨t1,t2⟩:=take_on' O j y hy;have hjl:=(List.getElem?_eq_some_iff.1 hy).1;obtain ⟨d1,d2,d3⟩:=S.deep G hy hn;obtain ⟨c1,c2,c3,c4⟩:=S.op a rfl
 have hyd:y∈O.drop j:=by rw [t2];exact List.mem_cons_self
 have hall:∀ z,z∈I.take i++O.take j -> z <= y:=fun z hz=>S.le z hz y (List.mem_append_right _ hyd)
 have e1:∀ n,y <= n -> cnt (O.take j) n=j:=fun n h=>by
  rw [cnt_all (fun z hz=>Int.le_trans (hall z (List.mem_append_right _ hz)) h),List.length_take];omega
 have e2:∀ n,y <= n -> cnt (I.take i) n=i:=fun n h=>by
  rw [cnt_all (fun z hz=>Int.le_trans (hall z (List.mem_append_left _ hz)) h),List.length_take];have:=S.hi;omega
 have hP:∀ n,(cnt (O.take (j+1)) n < cnt (I.take i) n↔if y <= n then j+1 < i else cnt (O.take j) n < cnt (I.take i) n):=fun n=>by
  rw [t1,cnt_append,cnt_one];by_cases h:y <= n
  ·rw [if_pos h,if_pos h,e1 n h,e2 n h]
  ·rw [if_neg h,if_neg h,Nat.add_zero]
 have hrest:∀ x,x∈I.drop i -> y < x:=fun x hx=>by
  cases hi:I[i]? with
  | none=>rw [List.drop_of_length_le (by simpa using hi)] at hx;cases hx
  | some z=>have h4:=hn z hi;have h5:=sorted_drop G.si hi x hx;omega
 have hle:∀ z,z∈I.take i++O.take (j+1) -> ∀ u,u∈I.drop i++O.drop (j+1) -> z <= u:=fun z hz u hu=>by
  have hu':y <= u:=by
   rcases List.mem_append.1 hu with g | g
   ·have:=hrest u g;omega
   ·exact sorted_drop G.so hy u (by rw [t2];exact List.mem_cons_of_mem _ g)
  rw [t1] at hz;rcases List.mem_append.1 hz with g | g
  ·exact Int.le_trans (hall z (List.mem_append_left _ g)) hu'
  ·rcases List.mem_append.1 g with g | g
   ·exact Int.le_trans (hall z (List.mem_append_right _ g)) hu'
   ·obtain rfl:=List.mem_singleton.1 g;exact hu'
 have hay:=hall a (List.mem_append_left _ c4);refine ⟨fun hne=>?_,fun he=>?_⟩
 ·refine ⟨S.hi,by omega,by omega,S.fm,⟨(fun h=>by cases h),fun h=>by omega⟩,fun h=>(by cases h),fun b hb=>?_,hle⟩;obtain rfl:=Option.some.inj hb;refine ⟨fun n=>?_,c2,c3,c4⟩;rw [hP];by_cases h:y <= n
  ·rw [if_pos h];exact ⟨fun _=>Or.inr (by omega),fun _=>by omega⟩
  ·rw [if_neg h,c1]
 ·have hlt:a < y:=by
   by_cases h:a=y
   ·exfalso
    have h5:cnt (I.take i) (y - 1) < i:=by
     obtain ⟨k,hk,e⟩:=List.getElem_of_mem c4
     have hs:I.take i=(I.take i).take k++((I.take i)[k] :: (I.take i).drop (k+1)):=by
      rw [<- List.drop_eq_getElem_cons hk,List.take_append_drop]
     have h6:cnt (I.take i) (y - 1)=cnt ((I.take i).take k) (y - 1)+(cnt [(I.take i)[k]] (y - 1)+cnt ((I.take i).drop (k+1)) (y - 1)):=by
      conv=>lhs;rw [hs]
      rw [cnt_append];congr 1;rw [<- cnt_append];rfl
     rw [cnt_one,e,if_neg (by omega)] at h6;have h7:=cnt_le ((I.take i).take k) (y - 1);have h8:=cnt_le ((I.take i).drop (k+1)) (y - 1);simp only [List.length_take,List.length_drop] at h7 h8 hk;omega
    omega
   ·omega
  have hyt:=G.hi y (List.mem_of_getElem? hy);refine ⟨hlt,S.hi,by omega,by omega,?_,⟨fun _=>he,fun _=>rfl⟩,fun _=>⟨fun n=>?_,fun x hx q r hq=>?_⟩,fun b hb=>(by cases hb),hle⟩
  ·exact form_push S.fm (fun q l h=>c2 q l h) c3 (by show a <= y - 1;omega) (by show y - 1 <= _;omega)
  ·rw [hP,inR_snoc];by_cases h:y <= n
   ·rw [if_pos h];constructor
    ·intro g;omega
    ·rintro (⟨r,hr,g1,g2⟩ | g)
     ·exfalso;rcases List.eq_nil_or_concat R with e | ⟨q,l,e⟩
      ·subst e;cases hr
      ·rw [List.concat_eq_append] at e;have g3:=c2 q l e
       have g4:r.hi <= l.hi:=by rw [e] at hr;have hf:=S.fm;rw [e] at hf;exact form_top hf hr
       omega
     ·simp only at g;omega
   ·rw [if_neg h,c1];constructor
    ·rintro (g | g)
     ·exact Or.inl g
     ·exact Or.inr ⟨g,by show n <= y - 1;omega⟩
    ·rintro (g | g)
     ·exact Or.inl g
     ·exact Or.inr g.1
  ·have:=hrest x hx;have e:=(List.append_inj' hq rfl).2;simp only [List.cons.injEq,and_true] at e;subst e
   show y - 1+2 <= x
   omega
theorem swG_of {B:List Rn} {I O:List Int} (hB:∀ r,r∈B -> 1 <= r.lo/\r.lo <= r.hi/\r.hi <= 1000000000) (pI:I.Perm (B.map (fun r=>r.lo))) (pO:O.Perm (B.map (fun r=>r.hi+1))) (si:I.Pairwise (· <= ·)) (so:O.Pairwise (· <= ·)):SwG I O:=by
 refine ⟨si,so,by rw [pI.length_eq,pO.length_eq];simp,fun n=>?_,fun x hx=>?_,fun x hx=>?_⟩
 ·rw [cnt_perm pI,cnt_perm pO];exact (cnt_runs B (fun r hr=>(hB r hr).2.1) n).1
 ·obtain ⟨r,hr,rfl⟩:=List.mem_map.1 (pI.mem_iff.1 hx);exact (hB r hr).1
 ·obtain ⟨r,hr,rfl⟩:=List.mem_map.1 (pO.mem_iff.1 hx);have:=(hB r hr).2.2;omega
theorem Sw.done {A:List Rn} {I O:List Int} {R:List Rn} {s:Option Int} {N:Nat} (pI:I.Perm ((clips A).map (fun r=>r.lo))) (pO:O.Perm ((clips A).map (fun r=>r.hi+1))) (S:Sw I O N N R s) (hI:I.length=N) (hO:O.length=N):s=none/\NormOf A R:=by
 have hs:s=none:=S.st.2 rfl;refine ⟨hs,S.fm,fun n=>?_⟩;rw [mem_inR S.fm,<- (S.cl hs).1 n,List.take_of_length_le (by omega),List.take_of_length_le (by omega),cnt_perm pI,cnt_perm pO,(cnt_runs (clips A) (fun r hr=>(clips_in A r hr).2.1) n).2.2];rw [<- clips_mem A n];constructor
 ·rintro ⟨r,hr,h1,h2⟩;have:=clips_in A r hr;exact ⟨by omega,by omega,r,hr,h1,h2⟩
 ·rintro ⟨_,_,h⟩;exact h
end
section

structure MI (A B acc:List Int) (i j:Nat):Prop where
 p:acc.Perm (A.take i++B.take j)
 s:acc.Pairwise (· <= ·)
 l:∀ x,x∈acc -> ∀ y,y∈A.drop i++B.drop j -> x <= y
theorem MI.start (A B:List Int):MI A B [] 0 0:=⟨by simp,List.Pairwise.nil,fun x hx=>by cases hx⟩
theorem pw_snoc {acc:List Int} {x:Int} (h:acc.Pairwise (· <= ·)) (hx:∀ y,y∈acc -> y <= x):(acc++[x]).Pairwise (· <= ·):=
 List.pairwise_append.2 ⟨h,List.pairwise_singleton _ _,fun a ha b hb=>by obtain rfl:=List.mem_singleton.1 hb;exact hx a ha⟩
theorem MI.left {A B acc:List Int} {i j:Nat} (M:MI A B acc i j) (sA:A.Pairwise (· <= ·)) (sB:B.Pairwise (· <= ·)) {x:Int} (hx:A[i]? = some x) (h:∀ y,B[j]? = some y -> x <= y):MI A B (acc++[x]) (i+1) j:=by
 obtain ⟨t1,t2⟩:=take_on' A i x hx;have hxd:x∈A.drop i++B.drop j:=List.mem_append_left _ (by rw [t2];exact List.mem_cons_self)
 have hle:∀ y,y∈A.drop (i+1)++B.drop j -> x <= y:=fun y hy=>by
  rcases List.mem_append.1 hy with g | g
  ·exact sorted_drop sA hx y (by rw [t2];exact List.mem_cons_of_mem _ g)
  ·cases hb:B[j]? with
   | none=>rw [List.drop_of_length_le (by simpa using hb)] at g;cases g
   | some b=>exact Int.le_trans (h b hb) (sorted_drop sB hb y g)
 refine ⟨?_,pw_snoc M.s (fun y hy=>M.l y hy x hxd),fun z hz y hy=>?_⟩
 ·rw [t1,List.append_assoc];refine ((M.p.append_right [x]).trans ?_);rw [List.append_assoc];exact List.Perm.append_left _ List.perm_append_comm
 ·rcases List.mem_append.1 hz with g | g
  ·exact Int.le_trans (M.l z g x hxd) (hle y hy)
  ·obtain rfl:=List.mem_singleton.1 g;exact hle y hy
theorem MI.right {A B acc:List Int} {i j:Nat} (M:MI A B acc i j) (sA:A.Pairwise (· <= ·)) (sB:B.Pairwise (· <= ·)) {y:Int} (hy:B[j]? = some y) (h:∀ x,A[i]? = some x -> y <= x):MI A B (acc++[y]) i (j+1):=by
 obtain ⟨t1,t2⟩:=take_on' B j y hy;have hyd:y∈A.drop i++B.drop j:=List.mem_append_right _ (by rw [t2];exact List.mem_cons_self)
 have hle:∀ z,z∈A.drop i++B.drop (j+1) -> y <= z:=fun z hz=>by
  rcases List.mem_append.1 hz with g | g
  ·cases ha:A[i]? with
   | none=>rw [List.drop_of_length_le (by simpa using ha)] at g;cases g
   | some a=>exact Int.le_trans (h a ha) (sorted_drop sA ha z g)
  ·exact sorted_drop sB hy z (by rw [t2];exact List.mem_cons_of_mem _ g)
 refine ⟨?_,pw_snoc M.s (fun z hz=>M.l z hz y hyd),fun x hx z hz=>?_⟩
 ·rw [t1,<- List.append_assoc];exact M.p.append_right [y]
 ·rcases List.mem_append.1 hx with g | g
  ·exact Int.le_trans (M.l x g y hyd) (hle z hz)
  ·obtain rfl:=List.mem_singleton.1 g;exact hle z hz
theorem MI.done {A B acc L:List Int} {k:Nat} (M:MI A B acc A.length B.length) (pA:A.Perm (L.take k)) (pB:B.Perm (L.drop k)):acc.Perm L:=by
 have:=M.p;rw [List.take_length,List.take_length] at this;refine this.trans ((pA.append pB).trans ?_);rw [List.take_append_drop]
theorem small_sorted {L:List Int} (h:L.length < 2):L.Pairwise (· <= ·):=by
 match L,h with
 | [],_=>exact List.Pairwise.nil
 | [x],_=>exact List.pairwise_singleton _ _
theorem getD_some (L:List Int) (i:Nat) (h:i < L.length):L[i]? = some (L.getD i 0):=by simp [List.getD,h]
end
section
open Go.RowKit
attribute [local go_sem ↓] V.mk22_eq
def GivesI (w w':World) (e:Ending) (n:Nat) (P:List Int -> Prop):Prop:=∃ ao c L,e = .returned (.slice ao n c)/\V.Src w' ao n c L/\n <= c/\c <= maxLen/\(∀ ad,ao=some ad -> w.heap.size <= ad.block)/\Below w.heap.size w w'/\P L
theorem make_rows (w:World) (n:Nat) (hn:n <= 17592186044415):∃ C:Array Value,(V.mk22 (.int .i64 0) (.int .i64 (n:Int))).run Tryz.prog w = .ok (.slice (some ⟨w.heap.size,0,none⟩) 0 n) (w.alloc (.cells C 3))/\C.size=n * 1:=by
 obtain ⟨i0,hi,hz0,hz1,hz2⟩:=info_parts infoI;have h:=run_make (P:=Tryz.prog) w 23 3 i0 (.int .i64 0) Tryz.underlying23 hi hz0 .i64 .i64 0 (n:Int) (by omega) (by omega) (by rw [hz2];omega) (by omega);rw [hz1,Int.toNat_natCast,Nat.mul_one] at h;refine ⟨_,h,?_⟩;simp [madeCells]
theorem sorted_any:∀ (n:Nat) (ao:Option Addr) (c:Nat) (L:List Int) (w:World),V.Src w ao n c L -> n <= c -> c <= maxLen -> n <= 17592186044415 ->
  Calls Tryz.prog 183 #[.slice ao n c] w fun e w'=>GivesI w w' e n (fun M=>M.Perm L/\M.Pairwise (· <= ·)):=by
 intro n
 induction n using Nat.strongRecOn with
 | ind n ih =>
  intro ao c L w hS hnc hcm hn;have HS:=hide hS;have HL:Hid (L.length=n):=hS.1;have HC:=hide (And.intro hnc hcm);have HIH:=hide ih;clear hS ih hnc hcm;by_cases h2:n < 2
  ·have h2':(n:Int) < 2:=by omega
   have HSM:Hid (L.Perm L/\L.Pairwise (· <= ·)):=⟨List.Perm.refl _,small_sorted (by rw [HL.out];exact h2)⟩;have HO:=hide (OwnI.made w #[] 0 rfl (by unfold maxLen;omega));have HS1:=hide (HS.out.below (below_new w (.cells #[] 3)));go_enter Tryz.func183,Tryz.ntmps183;go_wp2_with (at_builtin;refine HO.out.appendS L ao n c HS1.out (by simp only [List.length_nil];omega) rfl (.tmp 11) (.tmp 12) rfl 0 rfl rfl rfl ?_;intro ao3 c3 w3 O3;rw [List.nil_append] at O3;have HO3:=hide O3;clear O3);obtain ⟨S3,f3,g3,m3⟩:=HO3.out.src;rw [HL.out] at S3 g3;have HG:Hid (GivesI w w3 (.returned (.slice ao3 n c3)) n (fun M=>M.Perm L/\M.Pairwise (· <= ·))):=⟨ao3,c3,L,rfl,S3,g3,m3,f3,HO3.out.below,HSM.out⟩;clear S3 f3 g3 m3;go_ret;exact HG.out
  ·obtain ⟨ad,hao,_⟩:=isrc_at HS.out 0 (by omega);subst hao
   have h2':¬ (n:Int) < 2:=by omega
   have hk1:n / 2 <= n:=by omega
   have hkc:n / 2 <= c:=by have:=HC.out.1;omega
   have hcne:¬ c=n / 2:=by have:=HC.out.1;omega
   go_enter Tryz.func183,Tryz.ntmps183;go_wp2_with fail;refine (HIH.out (n / 2) (by omega) (some ad) c (L.take (n / 2)) w (src_take HS.out (n / 2) hk1) hkc HC.out.2 (by omega)).mono ?_;rintro e w1 ⟨ao1,c1,A,rfl,S1,g1,m1,f1,b1,pA,sA⟩;have HPA:=hide (And.intro pA sA);have HS1:=hide S1;have HB1:=hide b1;have HSL:=hide (HS.out.below b1);clear S1 g1 m1 f1 b1 pA sA HS;go_wp2_with fail;refine (HIH.out (n - n / 2) (by omega) (some (ad.add (n / 2))) (c - n / 2) (L.drop (n / 2)) w1 (src_drop HSL.out (n / 2) hk1 _) (Nat.sub_le_sub_right HC.out.1 _) (Nat.le_trans (Nat.sub_le _ _) HC.out.2) (by omega)).mono ?_;rintro e w2 ⟨ao2,c2,B,rfl,S2,g2,m2,f2,b2,pB,sB⟩;have HPB:=hide (And.intro pB sB);have HS2:=hide S2;replace HS1:=hide (HS1.out.below b2);have HB2:=wTr HB1 b2;clear S2 g2 m2 f2 b2 pB sB HSL HB1 HIH hcne;obtain ⟨na,Hna⟩:∃ na,Hid (n / 2=na):=⟨_,rfl⟩
   obtain ⟨nb,Hnb⟩:∃ nb,Hid (n - n / 2=nb):=⟨_,rfl⟩
   have hsum:na+nb=n:=by have h1:=Hna.out;have h2:=Hnb.out;omega
   have hna0:0 < na:=by have h1:=Hna.out;omega
   have hnb0:0 < nb:=by have h1:=Hnb.out;omega
   rw [Hnb.out] at HS2 ⊢;rw [Hna.out] at HS1 HPA HPB hk1 hkc ⊢;obtain ⟨d1,hd1,_⟩:=isrc_at HS1.out 0 hna0;obtain ⟨d2,hd2,_⟩:=isrc_at HS2.out 0 hnb0;subst hd1 hd2;obtain ⟨C,hmk,hC⟩:=make_rows w2 n hn;have HO3:=hide (OwnI.made w2 C n hC (by unfold maxLen;omega));clear hC;go_wp2_with fail;clear hmk;go_loopw [5,6,7] (fun v vi vj wr=>∃ (i j:Nat) (ao:Option Addr) (cap:Nat) (acc:List Int),i <= na/\j <= nb/\v = .slice ao acc.length cap/\vi = .int .i64 i/\vj = .int .i64 j/\Hid (OwnI w2.heap.size w2.heap.size w2 wr ao cap acc/\MI A B acc i j/\acc.length=i+j)) (fun _ vi vj _=>n - ((intOf vi).toNat+(intOf vj).toNat))
   case atStart=>exact ⟨0,0,_,n,[],Nat.zero_le _,Nat.zero_le _,rfl,rfl,rfl,HO3.out,MI.start A B,rfl⟩
   case round =>
    obtain ⟨i,j,ao,cap,acc,hi,hj,rfl,rfl,rfl,HI⟩:=hrel
    rename World=>w6
    clear HO3;by_cases hia:i < na
    ·obtain ⟨xa,Hxa⟩:∃ x,Hid (A.getD i 0=x):=⟨_,rfl⟩
     have HXA:Hid (A[i]? = some xa):=by show _=_;rw [<- Hxa.out];exact getD_some A i (by rw [HS1.out.1];exact hia)
     have ca:=(HS1.out.below HI.out.1.below).2.2 d1 rfl i hia;rw [Hxa.out] at ca;have ra:=cell_regrown ca;by_cases hjb:j < nb
     ·obtain ⟨xb,Hxb⟩:∃ x,Hid (B.getD j 0=x):=⟨_,rfl⟩
      have HXB:Hid (B[j]? = some xb):=by show _=_;rw [<- Hxb.out];exact getD_some B j (by rw [HS2.out.1];exact hjb)
      have cb:=(HS2.out.below HI.out.1.below).2.2 d2 rfl j hjb;rw [Hxb.out] at cb;have rb:=cell_regrown cb
      have hje:((j:Int) == (nb:Int))=false:=by simp;omega
      by_cases hxy:xa <= xb
      ·have HLE:Hid (∀ y,B[j]? = some y -> xa <= y):=fun y hy=>by rw [HXB.out] at hy;obtain rfl:=Option.some.inj hy;exact hxy
       go_wp2_with fail;refine wp_region_quiet_below (by kernel_rfl) (by kernel_rfl) ?_
       repeat (with_reducible (refine wpQuiet_step ?_);intro K hK;go_simp;(try rw [if_neg (by unfold undef;simp)]);first | (with_reducible (refine hK _ ?_);clear hK K) | (apply Exists.intro;refine ⟨fun _=>?_,hK _ ?_⟩;(fail);clear hK K))
       with_reducible (refine wpQuiet_nil ?_)
       intro w7 hw';obtain ⟨⟨dq,osq⟩,hw''⟩:=hw'
       have bw7:Below w6.heap.size w6 w7:=by rw [hw''];exact below_regrown w6 dq osq
       clear hw'' dq osq;have HO7:=hide (HI.out.1.later bw7);have ca7:=(bw7.cell (World.block_lt_of_cell? _ _ ca)).trans ca;have HM7:=hide (HI.out.2.1.left HPA.out.2 HPB.out.2 HXA.out HLE.out);have HAL:=hide HI.out.2.2;obtain ⟨m,Hm⟩:∃ m,Hid (acc.length=m):=⟨_,rfl⟩;rw [Hm.out];clear bw7 HI ra rb ca cb hje;go_wp2_with (at_builtin;refine (HO7.out.later (below_new w7 _)).append [xa] ⟨w7.heap.size,0,none⟩ 1 1 (ilit1 w7 xa _ rfl 3) (by have:=HAL.out;omega) rfl (.tmp 60) (.tmp 65) rfl m Hm.out rfl rfl ?_;intro ao8 c8 w8 O8 _ _;have HO8:=hide O8;clear O8);go_roundw
       case rel=>exact ⟨i+1,j,ao8,c8,acc++[xa],by omega,by omega,by rw [List.length_append,Hm.out];rfl,by go_num,by go_num,HO8.out,HM7.out,by rw [List.length_append,HAL.out];simp only [List.length_cons,List.length_nil];omega⟩
       case measure=>simp [intOf];omega
      ·have HGE:Hid (∀ x,A[i]? = some x -> xb <= x):=fun x hx=>by rw [HXA.out] at hx;obtain rfl:=Option.some.inj hx;omega
       have hxy':=decide_eq_false hxy;go_wp2_with fail;refine wp_region_quiet_below (by kernel_rfl) (by kernel_rfl) ?_
       repeat (with_reducible (refine wpQuiet_step ?_);intro K hK;go_simp;(try rw [if_neg (by unfold undef;simp)]);first | (with_reducible (refine hK _ ?_);clear hK K) | (apply Exists.intro;refine ⟨fun _=>?_,hK _ ?_⟩;(fail);clear hK K))
       with_reducible (refine wpQuiet_nil ?_)
       intro w7 hw';obtain ⟨⟨dq,osq⟩,hw''⟩:=hw'
       have bw7:Below w6.heap.size w6 w7:=by rw [hw''];exact below_regrown w6 dq osq
       clear hw'' dq osq;have HO7:=hide (HI.out.1.later bw7);have cb7:=(bw7.cell (World.block_lt_of_cell? _ _ cb)).trans cb;have HM7:=hide (HI.out.2.1.right HPA.out.2 HPB.out.2 HXB.out HGE.out);have HAL:=hide HI.out.2.2;obtain ⟨m,Hm⟩:∃ m,Hid (acc.length=m):=⟨_,rfl⟩;rw [Hm.out];clear bw7 HI ra rb ca cb hje hxy';go_wp2_with (at_builtin;refine (HO7.out.later (below_new w7 _)).append [xb] ⟨w7.heap.size,0,none⟩ 1 1 (ilit1 w7 xb _ rfl 3) (by have:=HAL.out;omega) rfl (.tmp 69) (.tmp 74) rfl m Hm.out rfl rfl ?_;intro ao8 c8 w8 O8 _ _;have HO8:=hide O8;clear O8);go_roundw
       case rel=>exact ⟨i,j+1,ao8,c8,acc++[xb],by omega,by omega,by rw [List.length_append,Hm.out];rfl,by go_num,by go_num,HO8.out,HM7.out,by rw [List.length_append,HAL.out];simp only [List.length_cons,List.length_nil];omega⟩
       case measure=>simp [intOf];omega
     ·have hje:((j:Int) == (nb:Int))=true:=by simp;omega
      have HLE:Hid (∀ y,B[j]? = some y -> xa <= y):=fun y hy=>by
       have:=(List.getElem?_eq_some_iff.1 hy).1;rw [HS2.out.1] at this;omega
      go_wp2_with fail;refine wp_region_quiet_below (by kernel_rfl) (by kernel_rfl) ?_
      repeat (with_reducible (refine wpQuiet_step ?_);intro K hK;go_simp;(try rw [if_neg (by unfold undef;simp)]);first | (with_reducible (refine hK _ ?_);clear hK K) | (apply Exists.intro;refine ⟨fun _=>?_,hK _ ?_⟩;(fail);clear hK K))
      with_reducible (refine wpQuiet_nil ?_)
      intro w7 hw';obtain ⟨⟨dq,osq⟩,hw''⟩:=hw'
      have bw7:Below w6.heap.size w6 w7:=by rw [hw''];exact below_regrown w6 dq osq
      clear hw'' dq osq;have HO7:=hide (HI.out.1.later bw7);have ca7:=(bw7.cell (World.block_lt_of_cell? _ _ ca)).trans ca;have HM7:=hide (HI.out.2.1.left HPA.out.2 HPB.out.2 HXA.out HLE.out);have HAL:=hide HI.out.2.2;obtain ⟨m,Hm⟩:∃ m,Hid (acc.length=m):=⟨_,rfl⟩;rw [Hm.out];clear bw7 HI ra ca hje;go_wp2_with (at_builtin;refine (HO7.out.later (below_new w7 _)).append [xa] ⟨w7.heap.size,0,none⟩ 1 1 (ilit1 w7 xa _ rfl 3) (by have:=HAL.out;omega) rfl (.tmp 60) (.tmp 65) rfl m Hm.out rfl rfl ?_;intro ao8 c8 w8 O8 _ _;have HO8:=hide O8;clear O8);go_roundw
      case rel=>exact ⟨i+1,j,ao8,c8,acc++[xa],by omega,by omega,by rw [List.length_append,Hm.out];rfl,by go_num,by go_num,HO8.out,HM7.out,by rw [List.length_append,HAL.out];simp only [List.length_cons,List.length_nil];omega⟩
      case measure=>simp [intOf];omega
    ·by_cases hjb:j < nb
     ·obtain ⟨xb,Hxb⟩:∃ x,Hid (B.getD j 0=x):=⟨_,rfl⟩
      have HXB:Hid (B[j]? = some xb):=by show _=_;rw [<- Hxb.out];exact getD_some B j (by rw [HS2.out.1];exact hjb)
      have cb:=(HS2.out.below HI.out.1.below).2.2 d2 rfl j hjb;rw [Hxb.out] at cb;have rb:=cell_regrown cb
      have hje:((j:Int) == (nb:Int))=false:=by simp;omega
      have HGE:Hid (∀ x,A[i]? = some x -> xb <= x):=fun x hx=>by
       have:=(List.getElem?_eq_some_iff.1 hx).1;rw [HS1.out.1] at this;omega
      have hia':¬ (i:Int) < (na:Int):=by omega
      go_wp2_with fail;refine wp_region_quiet_below (by kernel_rfl) (by kernel_rfl) ?_
      repeat (with_reducible (refine wpQuiet_step ?_);intro K hK;go_simp;(try rw [if_neg (by unfold undef;simp)]);first | (with_reducible (refine hK _ ?_);clear hK K) | (apply Exists.intro;refine ⟨fun _=>?_,hK _ ?_⟩;(fail);clear hK K))
      with_reducible (refine wpQuiet_nil ?_)
      intro w7 hw';obtain ⟨⟨dq,osq⟩,hw''⟩:=hw'
      have bw7:Below w6.heap.size w6 w7:=by rw [hw''];exact below_regrown w6 dq osq
      clear hw'' dq osq;have HO7:=hide (HI.out.1.later bw7);have cb7:=(bw7.cell (World.block_lt_of_cell? _ _ cb)).trans cb;have HM7:=hide (HI.out.2.1.right HPA.out.2 HPB.out.2 HXB.out HGE.out);have HAL:=hide HI.out.2.2;obtain ⟨m,Hm⟩:∃ m,Hid (acc.length=m):=⟨_,rfl⟩;rw [Hm.out];clear bw7 HI rb cb hje;go_wp2_with (at_builtin;refine (HO7.out.later (below_new w7 _)).append [xb] ⟨w7.heap.size,0,none⟩ 1 1 (ilit1 w7 xb _ rfl 3) (by have:=HAL.out;omega) rfl (.tmp 69) (.tmp 74) rfl m Hm.out rfl rfl ?_;intro ao8 c8 w8 O8 _ _;have HO8:=hide O8;clear O8);go_roundw
      case rel=>exact ⟨i,j+1,ao8,c8,acc++[xb],by omega,by omega,by rw [List.length_append,Hm.out];rfl,by go_num,by go_num,HO8.out,HM7.out,by rw [List.length_append,HAL.out];simp only [List.length_cons,List.length_nil];omega⟩
      case measure=>simp [intOf];omega
     ·obtain rfl:i=na:=by omega
      obtain rfl:j=nb:=by omega
      have hia':¬ (i:Int) < (i:Int):=by omega
      have HD:Hid (acc.Perm L/\acc.Pairwise (· <= ·)):=by
       have h:=HI.out.2.1;have e1:A.length=i:=HS1.out.1;have e2:B.length=j:=HS2.out.1;rw [<- e1,<- e2] at h;refine ⟨h.done HPA.out.1 ?_,h.s⟩;exact HPB.out.1
      obtain ⟨S3,f3,g3,m3⟩:=HI.out.1.src
      have e3:acc.length=n:=by rw [HI.out.2.2];exact hsum
      rw [e3] at S3 g3 ⊢;have HG:Hid (GivesI w w6 (.returned (.slice ao n cap)) n (fun M=>M.Perm L/\M.Pairwise (· <= ·))):=⟨ao,cap,acc,rfl,S3,g3,m3,fun ad h=>Nat.le_trans HB2.out.size (f3 ad h),HB2.out.trans (HI.out.1.below.mono HB2.out.size),HD.out⟩;clear S3 f3 g3 m3 e3;go_wp2_with fail;go_ret;exact HG.out
end
end Go.Proofs.YtaphmhbmhcahaabGreat
