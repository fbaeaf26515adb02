/- PDk PCm Shd PSd ONa -/
import Derived.Test.YtjffpimfngdggaaGreatTk
import Derived.Test.YtjffpimfngdggaaGreatFe00
import Derived.Laws.AppendOwnNone
import Derived.Test.YtjffpimfngdggaaGreatFe05
import Derived.Shelf.SlSortCmp.WholeK
import Derived.Test.YtjffpimfngdggaaGreatProg
import Derived.Test.YtjffpimfngdggaaGreatFe10
import Derived.Lib.BufferMore
set_option maxRecDepth 100000
set_option maxHeartbeats 1600000
namespace Go.Proofs.YtjffpimfngdggaaGreat
section
open Go.RowKit

def ldD (v:Value):Sem Value:=Instr.loadAt 48 v
theorem zV (v:Value):Instr.loadAt 48 v=ldD v:=rfl
def stD (p v:Value):Sem Unit:=Instr.storeAt 48 p v
theorem zU (p v:Value):Instr.storeAt 48 p v=stD p v:=rfl
theorem lI:(Tryz.prog.info? 48).map (·.size)=some 2:=by kernel_rfl
theorem rl:(Tryz.prog.info? 48).map (fun i=>(i.zero,i.size,i.bytes))=some (some (.agg #[.int .i64 0,.int .i64 0]),2,16):=by kernel_rfl
theorem zG {w:World} {p:Addr} {r:Rn} (A:gd w p r):(ldD (.pointer (some p))).run Tryz.prog w = .ok (RV r) w:=by
 have hl:=run_loadCells_list (P:=Tryz.prog) (w:=w) p (RC r).toList (fun j v hv=>by
  match j,hv with
  | 0,hv=>cases hv;rw [add_zero];exact A.c0
  | 1,hv=>cases hv;exact A.c1
  | j+2,hv=>simp [RC] at hv)
 unfold ldD;simp only [Instr.loadAt,Instr.sureAddr,Sem.run_bind,Sem.run_pure,Result.andThen]
 cases hq:Tryz.prog.info? 48 with
 | none=>have:=lI;simp [hq] at this
 | some x =>
  have hs:x.size=2:=by have:=lI;simpa [hq] using this
  have dR:(isAgg 48).run Tryz.prog w = .ok true w:=by
   unfold isAgg;rw [Sem.run_bind,run_underlying Tryz.underlying48 w];rfl
  have e2:(RC r).toList.length=2:=rfl;rw [e2] at hl;simp [loadVar,Sem.run_bind,dR,sizeOf,typeInfo,hq,hs,hl,RV]
theorem zhT {w:World} {g:Nat} {T:TypeId} {r r':Rn} (A:Box w g T r):(stD (.pointer (some ⟨g,0,none⟩)) (RV r')).run Tryz.prog w = .ok () (w.setRow g (RC r')):=by
 unfold stD;have h:=run_storeCells_from (P:=Tryz.prog) g T (RC r').toList 0 (RC r) w A (by simp [RC]) (jX r')
 cases hq:Tryz.prog.info? 48 with
 | none=>have:=lI;simp [hq] at this
 | some x =>
  have hs:x.size=2:=by have:=lI;simpa [hq] using this
  simp only [Instr.storeAt,Instr.sureAddr,Sem.run_bind,Sem.run_pure,Result.andThen,storeVar,sizeOf,typeInfo,zC,zN];simp at h;simp [h,hq,hs]
theorem uM (w:World) (r:Rn) (g:Nat) (hg:w.heap.size=g):∃ w':World,(stD (.pointer (some ⟨g,0,none⟩)) (RV r)).run Tryz.prog (w.alloc (.cells (RC rn0) 48)) = .ok () w'/\Box w' g 48 r/\Below w.heap.size w w'/\w'.heap.size=w.heap.size+1:=by
 subst hg;refine ⟨_,zhT (zT w 48 rn0),(zT w 48 rn0).setRow,zh (ze w _) (Nat.le_refl _),by simp [World.setRow]⟩
structure fd (B0 B:Nat) (w w':World) (ao:Option Addr) (cap:Nat) (acc:List Rn):Prop where
 own:w'.ownsRow B 48 2 (.slice ao acc.length cap) acc.length (rcs acc)
 below:Below B0 w w'
 hB:B <= w'.heap.size
 hB0:B0 <= B
theorem fd.later {B0 B:Nat} {w w' w2:World} {ao:Option Addr} {cap:Nat} {acc:List Rn} (O:fd B0 B w w' ao cap acc) (hb:Below w'.heap.size w' w2):fd B0 B w w2 ao cap acc:=by
 refine ⟨⟨O.own.1,?_⟩,O.below.trans (hb.mono (Nat.le_trans O.hB0 O.hB)),Nat.le_trans O.hB hb.size,O.hB0⟩;rcases O.own.2 with h | ⟨g,cap2,cur,hv,dN,dy,r⟩
 ·exact Or.inl h
 ·exact Or.inr ⟨g,cap2,cur,hv,dN,(hb.block g (Array.getElem?_eq_some_iff.1 dy).1).trans dy,r⟩
theorem zf4 {w:World} {E:List Rn} {ad:Addr} (h:∀ t,t < E.length -> gd w (ad.add (t * 2)) (E.getD t rn0)) (j:Nat) (u:Value) (hj:(rcs E)[j]? = some u):w.cell? (ad.add j)=some u:=by
 have hl:j < E.length * 2:=by rw [<- qt];exact (List.getElem?_eq_some_iff.1 hj).1
 have ht:j / 2 < E.length:=by omega
 have e:=wT E (j / 2) (j % 2) ht (by omega);rw [show j / 2 * 2+j % 2=j by omega,hj] at e;have A:=h (j / 2) ht
 have h2:j % 2=0∨j % 2=1:=by omega
 rcases h2 with h2 | h2
 ·rw [h2] at e
  have e':u = .int .i64 (E.getD (j / 2) rn0).lo:=by simpa [RC] using e
  rw [e',show ad.add j=ad.add (j / 2 * 2) by rw [show j / 2 * 2=j by omega]];exact A.c0
 ·rw [h2] at e
  have e':u = .int .i64 (E.getD (j / 2) rn0).hi:=by simpa [RC] using e
  have:=A.c1;rw [qC,show j / 2 * 2+1=j by omega] at this;rw [e'];exact this
theorem fd.append {B0 B:Nat} {w w':World} {ao:Option Addr} {cap:Nat} {acc:List Rn} (O:fd B0 B w w' ao cap acc) (E:List Rn) (ad:Addr) (m c:Nat) (hm:E.length=m) (hE:∀ t,t < m -> gd w' (ad.add (t * 2)) (E.getD t rn0)) (cF:acc.length+m <= 8796093022207)
  {ops:Array Oper} {rest:List Oper} {o:Oper} {a:Act} {Q:Exit -> Act -> World -> Prop} (hgd:o.guard=none) (s x:Operand) (ho:o.op = .call { callee:=.builtin .append,args:=#[s,x],argTypes:=#[32,32] })
  (n:Nat) (hn:acc.length=n) (hs:a.eval s = .slice ao n cap) (hx:a.eval x = .slice (some ad) m c)
  (hK:∀ (ao2:Option Addr) (cap2:Nat) (w2:World),fd B0 B w w2 ao2 cap2 (acc++E) -> wpList Tryz.prog ops Q rest (a.put o.dst (.slice ao2 (n+m) cap2)) w2) :
  wpList Tryz.prog ops Q (o :: rest) a w':=by
 subst hn hm;obtain ⟨i0,hi,dg,dn,ee⟩:=info_parts rl;have hB:=O.hB;have hB0:=O.hB0;refine wpList_append_own _ hgd s x 32 ho B 48 i0 (.agg #[.int .i64 0,.int .i64 0]) 2 16 Tryz.underlying32 hi dg dn ee rfl (by decide) _ acc.length (rcs acc) hs O.own ad E.length c (rcs E) hx (qt E) (fun j u hj=>zf4 hE j u hj) (zbW E) (by unfold maxLen;omega) (by omega) hB ?_;intro v' w2 aM az _;have dx:∀ k,(Value.slice ao acc.length cap).ownBlock=some k -> B <= k:=fun k hk=>(O.own.lt k hk).1;have dP:=az.size;have mS:Below B0 w w2:=O.below.grown az (by omega) (fun k hk=>by have:=dx k hk;omega);rw [<- xr] at aM;rcases aM.2 with ⟨h0,fh⟩ | ⟨g,cap2,cur,hv,r⟩
 ·subst h0;have e1:acc=[]:=List.eq_nil_of_length_eq_zero (by omega);have e2:E=[]:=List.eq_nil_of_length_eq_zero (by omega);subst e1 e2;exact hK none 0 w2 ⟨aM,mS,by omega,hB0⟩
 ·subst hv;refine hK (some ⟨g,0,none⟩) cap2 w2 ⟨?_,mS,by omega,hB0⟩;rw [List.length_append];exact aM
theorem fd.appendNone {B0 B:Nat} {w w':World} {ao:Option Addr} {cap:Nat} {acc:List Rn} (O:fd B0 B w w' ao cap acc)
  {ops:Array Oper} {rest:List Oper} {o:Oper} {a:Act} {Q:Exit -> Act -> World -> Prop} (hgd:o.guard=none) (s x:Operand) (ho:o.op = .call { callee:=.builtin .append,args:=#[s,x],argTypes:=#[32,32] })
  (n:Nat) (hn:acc.length=n) (hs:a.eval s = .slice ao n cap) (hx:a.eval x = .slice none 0 0)
  (hK:wpList Tryz.prog ops Q rest (a.put o.dst (.slice ao n cap)) w') :
  wpList Tryz.prog ops Q (o :: rest) a w':=by
 subst hn;obtain ⟨i0,hi,dg,dn,ee⟩:=info_parts rl;exact wpList_append_own_none hgd s x 32 ho B 48 i0 2 Tryz.underlying32 hi _ acc.length (rcs acc) hs O.own hx hK
theorem fd.src {B0 B:Nat} {w w':World} {ao:Option Addr} {cap:Nat} {acc:List Rn} (O:fd B0 B w w' ao cap acc) (hl:acc.length <= 8796093022207):aX w' ao acc.length cap acc/\∀ ad,ao=some ad -> B <= ad.block:=by
 rcases O.own.2 with ⟨h0,fh⟩ | ⟨g,cap2,cur,hv,dN,dy,hnc,eV,hcsz,htake⟩
 ·simp only [Value.slice.injEq] at h0;obtain ⟨rfl,e0,rfl⟩:=h0;exact ⟨⟨rfl,fun _=>⟨fh,rfl⟩,(fun ad h=>by cases h),by omega,Nat.zero_le _,hl⟩,fun ad h=>(by cases h)⟩
 ·simp only [Value.slice.injEq,true_and] at hv;obtain ⟨rfl,rfl⟩:=hv
  have cell:∀ t j,t < acc.length -> j < 2 -> w'.cell? ⟨g,t * 2+j,none⟩=(RC (acc.getD t rn0)).toList[j]?:=fun t j ht hj=>by
   rw [O.own.cellAt (t * 2+j) (by omega),wT _ t j ht hj]
  refine ⟨⟨rfl,fun h=>(by cases h),fun ad h t ht=>?_,hnc,eV,hl⟩,fun ad h=>by obtain rfl:=Option.some.inj h;exact dN⟩;obtain rfl:=Option.some.inj h;refine ⟨?_,?_⟩
  ·rw [Addr.add_lit,Nat.zero_add];exact cell t 0 ht (by omega)
  ·rw [Addr.add_lit,Addr.add_lit,Nat.zero_add];exact cell t 1 ht (by omega)
theorem fd.appendS {B0 B:Nat} {w w':World} {ao:Option Addr} {cap:Nat} {acc:List Rn} (O:fd B0 B w w' ao cap acc) (E:List Rn) (xo:Option Addr) (m c:Nat) (S:aX w' xo m c E) (cF:acc.length+m <= 8796093022207)
  {ops:Array Oper} {rest:List Oper} {o:Oper} {a:Act} {Q:Exit -> Act -> World -> Prop} (hgd:o.guard=none) (s x:Operand) (ho:o.op = .call { callee:=.builtin .append,args:=#[s,x],argTypes:=#[32,32] })
  (n:Nat) (hn:acc.length=n) (hs:a.eval s = .slice ao n cap) (hx:a.eval x = .slice xo m c)
  (hK:∀ (ao2:Option Addr) (cap2:Nat) (w2:World),fd B0 B w w2 ao2 cap2 (acc++E) -> wpList Tryz.prog ops Q rest (a.put o.dst (.slice ao2 (n+m) cap2)) w2) :
  wpList Tryz.prog ops Q (o :: rest) a w':=by
 cases xo with
 | some ad=>exact O.append E ad m c S.len (fun t ht=>S.cell ad rfl t ht) cF hgd s x ho n hn hs hx hK
 | none =>
  obtain ⟨rfl,rfl⟩:=S.nil rfl;have e:=List.eq_nil_of_length_eq_zero S.len;subst e;refine O.appendNone hgd s x ho n hn hs hx ?_;have:=hK ao cap w';rw [List.append_nil,Nat.add_zero] at this;exact this O
theorem zer (w:World):fd w.heap.size w.heap.size w (w.alloc (.cells #[] 48)) (some ⟨w.heap.size,0,none⟩) 0 []:=
 ⟨World.ownsRow_made w #[] 0 (Nat.le_refl _) (Nat.zero_le _) rfl,ze w _,by simp,Nat.le_refl _⟩
end
section

def lex {α : Type} (c : α -> α -> Int):List α -> List α -> Int
 | [],[]=>0
 | [],_ :: _ => -1
 | _ :: _,[]=>1
 | x :: s,y :: t=>if c x y=0 then lex c s t else c x y
structure Tot {α : Type} (c : α -> α -> Int):Prop where
 rng:∀ x y,c x y = -1∨c x y=0∨c x y=1
 neg:∀ x y,c y x = - c x y
 eq:∀ x y,c x y=0↔x=y
 tr:∀ x y z,c x y <= 0 -> c y z <= 0 -> c x z <= 0
theorem Tot.lt {α : Type} {c : α -> α -> Int} (h:Tot c) {x y z : α} (h1:c x y < 0) (h2:c y z <= 0):c x z < 0:=by
 have h3:=h.tr x y z (by omega) h2;by_cases e:c x z=0
 ·have:=(h.eq x z).1 e;subst this;have:=h.neg x y;omega
 ·omega
theorem xi:Tot au:=by
 refine ⟨fun x y=>?_,fun x y=>?_,fun x y=>?_,fun x y z=>?_⟩ <;> unfold au
 ·split
  ·omega
  ·split <;> omega
 ·split <;> split <;> (try split) <;> omega
 ·split
  ·omega
  ·split <;> omega
 ·intro h1 h2
  split at h1
  ·split at h2
   ·rw [if_pos (by omega)];omega
   ·split at h2
    ·omega
    ·rw [if_pos (by omega)];omega
  ·split at h1
   ·omega
   ·split at h2
    ·rw [if_pos (by omega)];omega
    ·split at h2
     ·omega
     ·rw [if_neg (by omega),if_neg (by omega)];omega
theorem Tot.lex {α : Type} {c : α -> α -> Int} (h:Tot c):Tot (lex c):=by
 refine ⟨?_,?_,?_,?_⟩
 ·intro x
  induction x with
  | nil=>intro y;cases y <;> simp [Go.Proofs.YtjffpimfngdggaaGreat.lex]
  | cons a s ih =>
   intro y
   cases y with
   | nil=>simp [Go.Proofs.YtjffpimfngdggaaGreat.lex]
   | cons b t =>
    simp only [Go.Proofs.YtjffpimfngdggaaGreat.lex]
    split
    ·exact ih t
    ·exact h.rng a b
 ·intro x
  induction x with
  | nil=>intro y;cases y <;> simp [Go.Proofs.YtjffpimfngdggaaGreat.lex]
  | cons a s ih =>
   intro y
   cases y with
   | nil=>simp [Go.Proofs.YtjffpimfngdggaaGreat.lex]
   | cons b t =>
    simp only [Go.Proofs.YtjffpimfngdggaaGreat.lex];have:=h.neg a b;by_cases e:c a b=0
    ·rw [if_pos e,if_pos (by omega)];exact ih t
    ·rw [if_neg e,if_neg (by omega)];exact this
 ·intro x
  induction x with
  | nil=>intro y;cases y <;> simp [Go.Proofs.YtjffpimfngdggaaGreat.lex]
  | cons a s ih =>
   intro y
   cases y with
   | nil=>simp [Go.Proofs.YtjffpimfngdggaaGreat.lex]
   | cons b t =>
    simp only [Go.Proofs.YtjffpimfngdggaaGreat.lex];by_cases e:c a b=0
    ·rw [if_pos e,ih t];have:=(h.eq a b).1 e;subst this;simp
    ·rw [if_neg e];constructor
     ·intro g;exact absurd g e
     ·intro g
      have:a=b:=by injection g
      exact absurd ((h.eq a b).2 this) e
 ·intro x
  induction x with
  | nil =>
   intro y z h1 h2
   cases z with
   | nil=>simp [Go.Proofs.YtjffpimfngdggaaGreat.lex]
   | cons d u=>simp [Go.Proofs.YtjffpimfngdggaaGreat.lex]
  | cons a s ih =>
   intro y z h1 h2
   cases y with
   | nil=>simp [Go.Proofs.YtjffpimfngdggaaGreat.lex] at h1
   | cons b t =>
    cases z with
    | nil=>simp [Go.Proofs.YtjffpimfngdggaaGreat.lex] at h2
    | cons d u =>
     simp only [Go.Proofs.YtjffpimfngdggaaGreat.lex] at h1 h2 ⊢;by_cases e1:c a b=0
     ·rw [if_pos e1] at h1;have:=(h.eq a b).1 e1;subst this;by_cases e2:c a d=0
      ·rw [if_pos e2] at h2 ⊢;exact ih t u h1 h2
      ·rw [if_neg e2] at h2 ⊢;exact h2
     ·rw [if_neg e1] at h1;by_cases e2:c b d=0
      ·have:=(h.eq b d).1 e2;subst this;rw [if_neg e1];exact h1
      ·rw [if_neg e2] at h2;have:=h.lt (x:=a) (y:=b) (z:=d) (by omega) h2;rw [if_neg (by omega)];omega
def both {α β γ : Type} (f : α -> β) (g : α -> γ) (c1 : β -> β -> Int) (c2 : γ -> γ -> Int) (x y : α):Int:=if c1 (f x) (f y)=0 then c2 (g x) (g y) else c1 (f x) (f y)
theorem Tot.both {α β γ : Type} {f : α -> β} {g : α -> γ} {c1 : β -> β -> Int} {c2 : γ -> γ -> Int} (h1:Tot c1) (h2:Tot c2) (hi:∀ x y,f x=f y -> g x=g y -> x=y):Tot (both f g c1 c2):=by
 refine ⟨fun x y=>?_,fun x y=>?_,fun x y=>?_,fun x y z=>?_⟩ <;> unfold Go.Proofs.YtjffpimfngdggaaGreat.both
 ·split
  ·exact h2.rng _ _
  ·exact h1.rng _ _
 ·have:=h1.neg (f x) (f y);by_cases e:c1 (f x) (f y)=0
  ·rw [if_pos e,if_pos (by omega)];exact h2.neg _ _
  ·rw [if_neg e,if_neg (by omega)];exact this
 ·by_cases e:c1 (f x) (f y)=0
  ·rw [if_pos e,h2.eq];exact ⟨fun k=>hi x y ((h1.eq _ _).1 e) k,fun k=>by rw [k]⟩
  ·rw [if_neg e];exact ⟨fun k=>absurd k e,fun k=>absurd ((h1.eq _ _).2 (by rw [k])) e⟩
 ·intro a b;by_cases e1:c1 (f x) (f y)=0
  ·rw [if_pos e1] at a;have q:=(h1.eq _ _).1 e1;rw [q];by_cases e2:c1 (f y) (f z)=0
   ·rw [if_pos e2] at b ⊢;exact h2.tr _ _ _ a b
   ·rw [if_neg e2] at b ⊢;exact b
  ·rw [if_neg e1] at a;by_cases e2:c1 (f y) (f z)=0
   ·have q:=(h1.eq _ _).1 e2;rw [<- q,if_neg e1];exact a
   ·rw [if_neg e2] at b;have:=h1.lt (x:=f x) (y:=f y) (z:=f z) (by omega) b;rw [if_neg (by omega)];omega
theorem ziO {x y:Sn} (h1:x.rep=y.rep) (h2:x.lo=y.lo) (h3:x.hi=y.hi):x=y:=by
 cases x;cases y;simp_all
def de (x y:Sn):Int:=if au x.rep y.rep=0 then (if au x.lo y.lo=0 then au x.hi y.hi else au x.lo y.lo) else au x.rep y.rep
theorem xI:Tot de:=by
 have h:Tot (both (fun x:Int × Int × Int=>x.1) (fun x=>x.2) au (both (fun x:Int × Int=>x.1) (fun x=>x.2) au au)):=
  Tot.both xi (Tot.both xi xi (fun x y h1 h2=>Prod.ext h1 h2)) (fun x y h1 h2=>Prod.ext h1 h2)
 have e:∀ x y,de x y=both (fun x:Int × Int × Int=>x.1) (fun x=>x.2) au (both (fun x:Int × Int=>x.1) (fun x=>x.2) au au) (x.rep,x.lo,x.hi) (y.rep,y.lo,y.hi):=fun x y=>rfl;refine ⟨fun x y=>?_,fun x y=>?_,fun x y=>?_,fun x y z=>?_⟩
 ·rw [e];exact h.rng _ _
 ·rw [e,e];exact h.neg _ _
 ·rw [e,h.eq];constructor
  ·intro g;simp only [Prod.mk.injEq] at g;exact ziO g.1 g.2.1 g.2.2
  ·intro g;rw [g]
 ·rw [e,e,e];exact h.tr _ _ _
def eZ (P Q:Pst):Int:=if lex au P.vec Q.vec=0 then lex de P.cloud Q.cloud else lex au P.vec Q.vec
theorem zgR:Tot eZ:=Tot.both (f:=Pst.vec) (g:=Pst.cloud) xi.lex xI.lex (fun x y h1 h2=>by cases x;cases y;simp_all)
theorem jC {α : Type} {c : α -> α -> Int} (hc:Tot c) (A B:List α):∀ k,A.take k=B.take k -> k <= A.length -> k <= B.length -> lex c A B=lex c (A.drop k) (B.drop k)
 | 0,_,_,_=>rfl
 | k+1,h,h1,h2=>by
  cases A with
  | nil=>simp at h1
  | cons a s =>
   cases B with
   | nil=>simp at h2
   | cons b t =>
    simp only [List.take_succ_cons,List.cons.injEq] at h;obtain ⟨rfl,h⟩:=h;have e:=(hc.eq a a).2 rfl;rw [Go.Proofs.YtjffpimfngdggaaGreat.lex,if_pos e];exact jC hc s t k h (by simpa using h1) (by simpa using h2)
end
end Go.Proofs.YtjffpimfngdggaaGreat
namespace Go.Proofs
open Go.Shelf
def Tryz.sortD_ren:Go.Shelf.Ren:=⟨fun | 6=>152 | 15=>160 | 14=>189 | 28=>201 | 29=>202 | 20=>219 | 21=>220 | 22=>221 | 23=>222 | 24=>223 | 25=>224 | 26=>225 | 27=>226 | 46=>245 | 47=>228 | 48=>229 | 49=>246 | 50=>247 | 57=>253 | n=>n,fun | 22=>32 | 24=>48 | 25=>193 | 3=>3 | 39=>201 | 0=>0 | 53=>230 | 55=>232 | 4=>4 | 46=>223 | 45=>222 | 50=>174 | 5=>5 | 9=>9 | 66=>247 | 70=>251 | 76=>263 | 77=>132 | n=>n,fun | n=>n⟩
theorem Tryz.sortD:Go.Proofs.SlLaysF0.n6 Tryz.prog Tryz.sortD_ren:={
 mixed:=by kernel_rfl
 f6:=⟨Tryz.f152.name,by decide,Tryz.func152.trans (congrArg some (by kernel_rfl))⟩
 f14:=⟨Tryz.f189.name,by decide,Tryz.func189.trans (congrArg some (by kernel_rfl))⟩
 f15:=Tryz.func160.trans (congrArg some (by kernel_rfl))
 f20:=⟨Tryz.f219.name,by decide,Tryz.func219.trans (congrArg some (by kernel_rfl))⟩
 f21:=⟨Tryz.f220.name,by decide,Tryz.func220.trans (congrArg some (by kernel_rfl))⟩
 f22:=⟨Tryz.f221.name,by decide,Tryz.func221.trans (congrArg some (by kernel_rfl))⟩
 f23:=⟨Tryz.f222.name,by decide,Tryz.func222.trans (congrArg some (by kernel_rfl))⟩
 f24:=⟨Tryz.f223.name,by decide,Tryz.func223.trans (congrArg some (by kernel_rfl))⟩
 f25:=⟨Tryz.f224.name,by decide,Tryz.func224.trans (congrArg some (by kernel_rfl))⟩
 f26:=⟨Tryz.f225.name,by decide,Tryz.func225.trans (congrArg some (by kernel_rfl))⟩
 f27:=⟨Tryz.f226.name,by decide,Tryz.func226.trans (congrArg some (by kernel_rfl))⟩
 f28:=Tryz.func201.trans (congrArg some (by kernel_rfl))
 f29:=Tryz.func202.trans (congrArg some (by kernel_rfl))
 f46:=⟨Tryz.f245.name,by decide,Tryz.func245.trans (congrArg some (by kernel_rfl))⟩
 f47:=Tryz.func228.trans (congrArg some (by kernel_rfl))
 f48:=Tryz.func229.trans (congrArg some (by kernel_rfl))
 f49:=⟨Tryz.f246.name,by decide,Tryz.func246.trans (congrArg some (by kernel_rfl))⟩
 f50:=⟨Tryz.f247.name,by decide,Tryz.func247.trans (congrArg some (by kernel_rfl))⟩
 f57:=⟨Tryz.f253.name,by decide,Tryz.func253.trans (congrArg some (by kernel_rfl))⟩
 t0:=Tryz.underlying0
 a0:=Tryz.isAgg0
 z0:=Tryz.sizeOf0
 v0:=Tryz.zeroValue0
 t3:=Tryz.underlying3
 a3:=Tryz.isAgg3
 z3:=Tryz.sizeOf3
 v3:=Tryz.zeroValue3
 t4:=Tryz.underlying4
 a4:=Tryz.isAgg4
 z4:=Tryz.sizeOf4
 v4:=Tryz.zeroValue4
 t5:=Tryz.underlying5
 a5:=Tryz.isAgg5
 z5:=Tryz.sizeOf5
 v5:=Tryz.zeroValue5
 t9:=Tryz.underlying9
 a9:=Tryz.isAgg9
 z9:=Tryz.sizeOf9
 v9:=Tryz.zeroValue9
 t22:=Tryz.underlying32
 a22:=Tryz.isAgg32
 z22:=Tryz.sizeOf32
 v22:=Tryz.zeroValue32
 t25:=Tryz.underlying193
 a25:=Tryz.isAgg193
 z25:=Tryz.sizeOf193
 v25:=Tryz.zeroValue193
 t39:=Tryz.underlying201
 a39:=Tryz.isAgg201
 z39:=Tryz.sizeOf201
 v39:=Tryz.zeroValue201
 t45:=Tryz.underlying222
 a45:=Tryz.isAgg222
 z45:=Tryz.sizeOf222
 v45:=Tryz.zeroValue222
 t46:=Tryz.underlying223
 a46:=Tryz.isAgg223
 z46:=Tryz.sizeOf223
 v46:=Tryz.zeroValue223
 t50:=Tryz.underlying174
 a50:=Tryz.isAgg174
 z50:=Tryz.sizeOf174
 v50:=Tryz.zeroValue174
 t53:=Tryz.underlying230
 a53:=Tryz.isAgg230
 z53:=Tryz.sizeOf230
 v53:=Tryz.zeroValue230
 t55:=Tryz.underlying232
 a55:=Tryz.isAgg232
 z55:=Tryz.sizeOf232
 v55:=Tryz.zeroValue232
 t66:=Tryz.underlying247
 a66:=Tryz.isAgg247
 z66:=Tryz.sizeOf247
 v66:=Tryz.zeroValue247
 t70:=Tryz.underlying251
 a70:=Tryz.isAgg251
 z70:=Tryz.sizeOf251
 v70:=Tryz.zeroValue251
 t76:=Tryz.underlying263
 a76:=Tryz.isAgg263
 z76:=Tryz.sizeOf263
 v76:=Tryz.zeroValue263
 t77:=Tryz.underlying132
 a77:=Tryz.isAgg132
 z77:=Tryz.sizeOf132
 v77:=Tryz.zeroValue132 }
end Go.Proofs
namespace Go.Proofs.YtjffpimfngdggaaGreat
section
open Go.RowKit Go.Sort

def or2 (a b:Int):Int:=if a=0 then b else a
theorem zhZ (g:Nat) (a b:Int) (w:World) (c0:w.cell? ⟨g,0,none⟩=some (.int .i64 a)) (c1:w.cell? ⟨g,1,none⟩=some (.int .i64 b)) :
  Calls Tryz.prog 137 #[.slice (some ⟨g,0,none⟩) 2 2] w fun e w'=>e = .returned (.int .i64 (or2 a b))/\w'=w:=by
 go_enter Tryz.func137,Tryz.ntmps137;go_wp2;go_loop [8] (fun i=>∃ k:Nat,k <= 2/\i = .int .i64 k/\Hid (0 < k -> a=0)/\Hid (1 < k -> b=0)) (fun i=>2 - (intOf i).toNat)
 case atStart=>exact ⟨0,Nat.zero_le _,rfl,fun h=>absurd h (by omega),fun h=>absurd h (by omega)⟩
 case round =>
  obtain ⟨k,hk,rfl,Ha,Hb⟩:=hrel;by_cases ak:k < 2
  ·obtain ⟨z,fV,Hz⟩:∃ z,w.cell? ⟨g,k,none⟩=some (.int .i64 z)/\Hid (or2 a b=if z=0/\k=0 then b else z):=by
    match k,ak,Ha with
    | 0,_,_=>exact ⟨a,c0,by show _=_;unfold or2;by_cases h:a=0 <;> simp [h]⟩
    | 1,_,Ha=>exact ⟨b,c1,by show _=_;unfold or2;rw [if_pos (Ha.out (by omega))];simp⟩
   have CH:Hid (z=0 -> (k=0 -> a=0)/\(k=1 -> b=0)):=by
    intro hz;constructor
    ·intro h;subst h;rw [c0] at fV;simpa [hz] using fV
    ·intro h;subst h;rw [c1] at fV;simpa [hz] using fV
   clear c0 c1;by_cases h0:z=0
   ·have hA:=(CH.out h0).1;have hB:=(CH.out h0).2
    have HA:Hid (0 < k+1 -> a=0):=by intro _;by_cases gK:k=0;exact hA gK;exact Ha.out (by omega)
    have HB:Hid (1 < k+1 -> b=0):=by intro _;exact hB (by omega)
    have mF:(z != 0)=false:=by simpa using h0
    clear h0 hA hB;go_wp2;go_round
    case rel=>exact ⟨k+1,by omega,by go_num,HA,HB⟩
    case measure=>simp [intOf];omega
   ·have mF:(z != 0)=true:=by simpa using h0
    have HF:Hid (or2 a b=z):=by show _=_;rw [Hz.out,if_neg (by simp [h0])]
    clear h0;go_wp2;go_ret;exact ⟨zH HF.out.symm,rfl⟩
  ·have HF:Hid (or2 a b=0):=by show _=_;unfold or2;rw [if_pos (Ha.out (by omega))];exact Hb.out (by omega)
   clear c0 c1;go_wp2;go_ret;exact ⟨zH HF.out.symm,rfl⟩
def byD (x y:Rn):Int:=or2 (au x.lo y.lo) (au x.hi y.hi)
def iS (x y:Rn):Bool:=decide (x.lo < y.lo) || (x.lo == y.lo && decide (x.hi < y.hi))
theorem vR (x y:Rn):ltOf byD x y=iS x y:=by
 unfold ltOf byD or2 au iS;by_cases h1:x.lo < y.lo
 ·simp [h1]
 ·by_cases h2:y.lo < x.lo
  ·have:¬ x.lo=y.lo:=by omega
   simp [h1,h2,this]
  ·have e:x.lo=y.lo:=by omega
   by_cases h3:x.hi < y.hi
   ·simp [e,h3]
   ·by_cases h4:y.hi < x.hi <;> simp [e,h3,h4]
theorem zcf:SWO (ltOf byD) where
 irrefl x:=by rw [vR];simp [iS]
 trans x y z h1 h2:=by rw [vR] at *;simp [iS] at *;omega
 ntrans x y z h1 h2:=by rw [vR] at *;simp [iS] at *;omega
theorem zb4 (w:World) (a b c:Obj):lW w (((w.alloc a).alloc b).drew.alloc c):=by
 refine ⟨1,#[a]++#[b]++#[c],?_⟩;rw [alloc_eq_grow ((w.alloc a).alloc b).drew c,alloc_eq_grow (w.alloc a) b,alloc_eq_grow w a,grow_grow,drew_grow,grow_grow];rfl
structure nS (w W:World) (x y:Rn):Prop where
 below:Below w.heap.size w W
 size:w.heap.size+2 <= W.heap.size
 a0:W.cell? ⟨w.heap.size,0,none⟩=some (.int .i64 x.lo)
 a1:W.cell? ⟨w.heap.size,1,none⟩=some (.int .i64 x.hi)
 b0:W.cell? ⟨w.heap.size+1,0,none⟩=some (.int .i64 y.lo)
 b1:W.cell? ⟨w.heap.size+1,1,none⟩=some (.int .i64 y.hi)
theorem nS.start (w:World) (x y:Rn):nS w ((w.alloc (.cells #[.int .i64 x.lo,.int .i64 x.hi] 48)).alloc (.cells #[.int .i64 y.lo,.int .i64 y.hi] 48)) x y:=
 ⟨(ze w _).trans ((ze _ _).mono (by simp)),by simp,by simp,by simp,by simp,by simp⟩
theorem nS.on {w W W':World} {x y:Rn} (h:nS w W x y) (hb:Below W.heap.size W W'):nS w W' x y:=
 ⟨h.below.trans (hb.mono h.below.size),Nat.le_trans h.size hb.size,(hb.cell (World.block_lt_of_cell? _ _ h.a0)).trans h.a0,(hb.cell (World.block_lt_of_cell? _ _ h.a1)).trans h.a1,(hb.cell (World.block_lt_of_cell? _ _ h.b0)).trans h.b0,(hb.cell (World.block_lt_of_cell? _ _ h.b1)).trans h.b1⟩
theorem wZ (a b:Int) (w:World) (g:Nat) (hg:w.heap.size=g):Calls Tryz.prog 137 #[.slice (some ⟨g,0,none⟩) 2 2] (w.alloc (.cells #[.int .i64 a,.int .i64 b] 3)) fun e w'=>e = .returned (.int .i64 (or2 a b))/\w'=w.alloc (.cells #[.int .i64 a,.int .i64 b] 3):=by
 subst hg;exact zhZ w.heap.size a b _ (by simp) (by simp)
theorem zaD (x y:Rn) (w:World):Calls Tryz.prog 153 #[.agg #[.int .i64 x.lo,.int .i64 x.hi],.agg #[.int .i64 y.lo,.int .i64 y.hi]] w fun e w'=>e = .returned (.int .i64 (byD x y))/\lW w w':=by
 have T0:=hide (nS.start w x y);obtain ⟨w0,mU⟩:∃ w0,Hid ((w.alloc (.cells #[.int .i64 x.lo,.int .i64 x.hi] 48)).alloc (.cells #[.int .i64 y.lo,.int .i64 y.hi] 48)=w0):=⟨_,rfl⟩;rw [mU.out] at T0;have c1:=T0.out.a0;have c2:=T0.out.a1;have c3:=T0.out.b0;have c4:=T0.out.b1;obtain ⟨p,Hp⟩:∃ p,Hid (au x.lo y.lo=p):=⟨_,rfl⟩;obtain ⟨q,Hq⟩:∃ q,Hid (au x.hi y.hi=q):=⟨_,rfl⟩
 have C1:Hid (∀ W,Calls Tryz.prog 138 #[.int .i64 x.lo,.int .i64 y.lo] W fun e w'=>e = .returned (.int .i64 p)/\w'=W):=fun W=>by rw [<- Hp.out];exact qA _ _ W
 have C2:Hid (∀ W,Calls Tryz.prog 138 #[.int .i64 x.hi,.int .i64 y.hi] W fun e w'=>e = .returned (.int .i64 q)/\w'=W):=fun W=>by rw [<- Hq.out];exact qA _ _ W
 have HF:Hid (or2 p q=byD x y):=by show _=_;unfold byD;rw [Hp.out,Hq.out]
 have T1:Hid (nS w (w0.drew.alloc (.cells #[.int .i64 p,.int .i64 q] 3)) x y):=(T0.out.on (zg _)).on (ze _ _);have HO:=hide (wZ p q w0.drew w0.heap.size rfl)
 have HG:Hid (lW w (w0.drew.alloc (.cells #[.int .i64 p,.int .i64 q] 3))):=by rw [<- mU.out];exact zb4 _ _ _ _
 obtain ⟨r,m⟩:=x;obtain ⟨r',m'⟩:=y;go_enter Tryz.func153,Tryz.ntmps153;go_wp2_with fail;rw [mU.out]
 first | (go_region_held (fun W=>W.cell? ⟨w.heap.size,0,none⟩=some (.int .i64 r)/\W.cell? ⟨w.heap.size,1,none⟩=some (.int .i64 m)/\W.cell? ⟨w.heap.size+1,0,none⟩=some (.int .i64 r')/\W.cell? ⟨w.heap.size+1,1,none⟩=some (.int .i64 m')) (first | exact ⟨T1.out.a0,T1.out.a1,T1.out.b0,T1.out.b1⟩ | go_keep) (first | (go_at_call_of 138 r;refine (C1.out _).mono ?_;rintro e w' ⟨rfl,rfl⟩) | (go_at_call_of 138 m;refine (C2.out _).mono ?_;rintro e w' ⟨rfl,rfl⟩) | (go_at_call 137;refine HO.out.mono ?_;rintro e w' ⟨rfl,rfl⟩))) | fail
 all_goals (go_wp2_with fail)
 all_goals go_ret
 all_goals exact ⟨zH HF.out,HG.out⟩
theorem ru (blk size:Nat) (w:World):CmpLays Tryz.prog 153 #[] cM 2 byD blk 0 size w:=
 fun _ _ _ _ x y=>zaD x y _
theorem zd8 (ad:Addr) (cap n:Nat) (d:Array Rn) (w:World) (M:MR w ad d) (hn:d.size=n) (hb:n <= 8796093022207) :
  Calls Tryz.prog 152 #[.slice (some ad) n cap,.func (.func 153) #[] #[]] w fun e w'=>e = .returned (.tuple #[])/\∃ d',d'.toList.Perm d.toList/\d'.size=n/\MR w' ad d'/\Below ad.block w w':=by
 subst hn;have eg:∀ args w,(callFunc 153 args).run Tryz.prog w = .ok (.enter 153 args) w:=enters_of Tryz.func153 (by kernel_rfl) rfl;have h:=AnyQ.slices_SortFunc Tryz.sortD 2 Tryz.isAgg48 Tryz.sizeOf48 cM (fun _=>rfl) (fun x v hv=>jX x v hv) byD zcf 153 #[] ad.block 0 cap d w eg (ru ad.block d.size w) M.hk M.lt (by omega);rw [<- M.ha] at h;refine Calls.mono h ?_;rintro e w' ⟨rfl,d',m,os,⟨hs,_,hp⟩,_,rfl⟩;refine ⟨rfl,d',?_,hs,⟨holdsK_sortWorldK_c cM 2 w ad.block 0 d d' m os M.hk M.lt hs,?_,M.ha⟩,?_⟩
 ·have e1:d'.extract 0 d.size=d':=by rw [<- hs];simp
  have e2:d.extract 0 d.size=d:=by simp
  rwa [e1,e2] at hp
 ·have:=M.lt
  show ad.block < ((putRow id (Sort.ahead w m) ad.block 0 (flatK cM 2 d')).heap++os).size
  rw [Array.size_append,size_putRow]
  show ad.block < w.heap.size+os.size
  omega
 ·have h1:Below ad.block w (putRow id (Sort.ahead w m) ad.block 0 (flatK cM 2 d')):=Lib.below_putRow (Below.refl _ _) (Nat.le_refl _);refine h1.trans ?_
  have dP:ad.block <= (putRow id (Sort.ahead w m) ad.block 0 (flatK cM 2 d')).heap.size:=by rw [size_putRow];exact Nat.le_of_lt M.lt
  show Below ad.block _ (grow (putRow id (Sort.ahead w m) ad.block 0 (flatK cM 2 d')) os)
  generalize putRow id (Sort.ahead w m) ad.block 0 (flatK cM 2 d')=V at dP;exact ⟨rfl,rfl,rfl,by show _ <= (V.heap++os).size;rw [Array.size_append];omega,fun k hk=>by show (V.heap++os)[k]? = _;rw [Array.getElem?_append_left (by omega)]⟩
theorem fd.mr {B0 B:Nat} {w w':World} {ad:Addr} {cap:Nat} {acc:List Rn} (O:fd B0 B w w' (some ad) cap acc):MR w' ad acc.toArray/\B <= ad.block/\acc.length <= cap/\cap <= maxLen:=by
 rcases O.own.2 with ⟨h0,_⟩ | ⟨g,c,cur,hv,dN,dy,hnc,eV,hcsz,htake⟩
 ·cases h0
 ·simp only [Value.slice.injEq,Option.some.injEq,true_and] at hv;obtain ⟨rfl,rfl⟩:=hv;refine ⟨⟨fun j hj=>?_,(Array.getElem?_eq_some_iff.1 dy).1,rfl⟩,dN,hnc,eV⟩;rw [Sort.size_flatK] at hj
  have KK:j < acc.length * 2:=by simpa using hj
  refine ⟨?_,by simp [World.frozen?,dy]⟩;rw [Nat.zero_add,O.own.cellAt j (by omega),Sort.get_flatK _ _ _ _ hj];have e4:=wT acc (j / 2) (j % 2) (by omega) (by omega);rw [show j / 2 * 2+j % 2=j by omega] at e4;rw [e4]
  have e5:acc.toArray[j / 2]! = acc.getD (j / 2) rn0:=by
   rw [getElem!_pos acc.toArray (j / 2) (by simp;omega)];simp [List.getD,show j / 2 < acc.length by omega]
  rw [e5]
  have:j % 2=0∨j % 2=1:=by omega
  rcases this with h | h <;> rw [h] <;> rfl
theorem zdL (ad:Addr) (n c:Nat) (D:List Rn) (w:World) (hS:aX w (some ad) n c D) :
  Calls Tryz.prog 151 #[.slice (some ad) n c] w fun e w'=>∃ ao c',e = .returned (.slice ao n c')/\fd w.heap.size w.heap.size w w' ao c' D:=by
 have HO:=hide (zer w);have HS:=hide (hS.below (ze w (.cells #[] 48)));have HB:=hS.big;have ei:(binOp .eql 32 (.slice (some ad) n c) (.slice none 0 0)).run Tryz.prog w = .ok (.bool false) w:=Lib.run_eql_slice_some_nil w _ _ _ Tryz.underlying32;clear hS;go_enter Tryz.func151,Tryz.ntmps151;go_wp2_with (at_builtin;refine HO.out.appendS D (some ad) n c HS.out (by simp only [List.length_nil];omega) rfl (.tmp 5) (.tmp 6) rfl 0 rfl rfl rfl ?_;intro ao3 c3 w3 O3;rw [List.nil_append] at O3;have lL:=hide O3;clear O3);go_ret;exact ⟨ao3,c3,by simp,lL.out⟩
theorem zbn (ao:Option Addr) (n c:Nat) (w:World) (hn:n < 2) :
  Calls Tryz.prog 154 #[.slice ao n c] w fun e w'=>e = .returned (.slice ao n c)/\w'=w:=by
 have h:(n:Int) < 2:=by omega
 go_enter Tryz.func154,Tryz.ntmps154;go_wp2_with fail;go_ret;exact ⟨rfl,rfl⟩
end
section
open Go.RowKit

def nrC (s:Sn) (d:Rn):Int:=or2 (au s.rep d.lo) (au s.hi d.hi)
theorem bY (s:Sn) (d:Rn):nrC s d < 0↔s.rep < d.lo∨(s.rep=d.lo/\s.hi < d.hi):=by
 unfold nrC or2 au;by_cases h1:s.rep < d.lo
 ·simp [h1]
 ·by_cases h2:d.lo < s.rep
  ·simp [h1,h2];omega
  ·have h3:s.rep=d.lo:=by omega
   by_cases h4:s.hi < d.hi
   ·simp [h3,h4]
   ·by_cases h5:d.hi < s.hi <;> simp [h3,h4,h5]
theorem zez (s:Sn) (d:Rn) (w:World):Calls Tryz.prog 187 #[SV s,RV d] w fun e w'=>e = .returned (.int .i64 (nrC s d))/\Below w.heap.size w w':=by
 have b1:=ze w (.cells (SC s) 104);have x1:=qH w s;have s1:=World.size_alloc w (.cells (SC s) 104);obtain ⟨w1,cR⟩:∃ w1,w.alloc (.cells (SC s) 104)=w1:=⟨_,rfl⟩;obtain ⟨g1,cT⟩:∃ g1,w.heap.size=g1:=⟨_,rfl⟩;rw [cR] at b1 x1 s1;rw [cT] at x1 s1;have b2:=ze w1 (.cells (RC d) 48);have x2:=zT w1 48 d;obtain ⟨w2,fi⟩:∃ w2,w1.alloc (.cells (RC d) 48)=w2:=⟨_,rfl⟩;rw [fi] at b2 x2;rw [s1] at x2;have HB:=hide (b1.trans (b2.mono b1.size));have HX:Hid (dr w2 g1 s/\Box w2 (g1+1) 48 d):=⟨x1.below b2,x2⟩
 have aG:Hid (∀ W,Below w2.heap.size w2 W -> W.cell? ⟨g1,0,none⟩=some (.int .i64 s.rep)/\W.cell? ⟨g1,2,none⟩=some (.int .i64 s.hi)/\W.cell? ⟨g1+1,0,none⟩=some (.int .i64 d.lo)/\W.cell? ⟨g1+1,1,none⟩=some (.int .i64 d.hi)):=fun W hW=>by
  obtain ⟨c0,-,c2⟩:=(HX.out.1.below hW).at
  have hd:=(HX.out.2.below hW).at
  exact ⟨c0,c2,hd.c0,hd.c1⟩
 obtain ⟨p,Hp⟩:∃ p,Hid (au s.rep d.lo=p):=⟨_,rfl⟩;obtain ⟨q,Hq⟩:∃ q,Hid (au s.hi d.hi=q):=⟨_,rfl⟩
 have HR:Hid (nrC s d=or2 p q):=by show _=_;unfold nrC;rw [Hp.out,Hq.out]
 clear b1 b2 x1 x2;go_enter Tryz.func187,Tryz.ntmps187;go_wp2_with fail;clear cR fi s1 cT;refine wp_region_held_drew (S:=fun W=>W.cell? ⟨g1,0,none⟩=some (.int .i64 s.rep)/\W.cell? ⟨g1,2,none⟩=some (.int .i64 s.hi)/\W.cell? ⟨g1+1,0,none⟩=some (.int .i64 d.lo)/\W.cell? ⟨g1+1,1,none⟩=some (.int .i64 d.hi)) (by kernel_rfl) (aG.out _ (zg w2)) (fun hHeld=>?_);refine wU 0 ?_;refine wU 1 ?_;refine wU 2 ?_;refine wU 3 ?_;refine wU 5 ?_;refine wU 6 ?_;refine wU 7 ?_;refine wU 8 ?_;refine wpAnyH_ready (rs:=[4]) (by kernel_rfl) (by simp) (.cons rfl (fun K hK=>?_) .nil);go_simp;go_wp2_with fail;refine (qA s.rep d.lo _).mono ?_;rintro e w' ⟨rfl,rfl⟩;rw [Hp.out];refine hK.out _ _ (aG.out _ (zg w2)) (fun hHeld=>?_);clear hK K;refine wpAnyH_ready (rs:=[9]) (by kernel_rfl) (by simp) (.cons rfl (fun K hK=>?_) .nil);go_simp
 go_wp2_with fail;refine (qA s.hi d.hi _).mono ?_;rintro e w' ⟨rfl,rfl⟩;rw [Hq.out];refine hK.out _ _ (aG.out _ (zg w2)) (fun hHeld=>?_);clear hK K;have aB:=hide ((zg w2).trans (ze w2.drew (.cells #[.int .i64 p,.int .i64 q] 3)));have HO:=hide (wZ p q w2.drew w2.heap.size rfl);refine wpAnyH_ready (rs:=[10]) (by kernel_rfl) (by simp) (.cons rfl (fun K hK=>?_) .nil);go_simp;refine hK.out _ _ (aG.out _ aB.out) (fun hHeld=>?_);clear hK K;refine wpAnyH_ready (rs:=[11]) (by kernel_rfl) (by simp) (.cons rfl (fun K hK=>?_) .nil);go_simp;go_wp2_with fail;refine HO.out.mono ?_;rintro e w' ⟨rfl,rfl⟩;refine hK.out _ _ (aG.out _ aB.out) (fun hHeld=>?_);clear hK K;refine wU 12 ?_;refine wpAnyH_done (by kernel_rfl) ?_ _;clear hHeld;go_wp2_with fail;go_ret;exact ⟨zH HR.out.symm,HB.out.trans (aB.out.mono HB.out.size)⟩
end
end Go.Proofs.YtjffpimfngdggaaGreat
