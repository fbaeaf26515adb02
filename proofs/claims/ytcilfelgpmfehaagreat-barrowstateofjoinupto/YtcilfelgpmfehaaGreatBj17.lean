/- OPa OCm -/
import Derived.Test.YtcilfelgpmfehaaGreatBj16
import Derived.Laws.StructEq
import Derived.Shelf.SlicesQ.Reverse
import Derived.Lib.OwnBridge
import Derived.Deep.LoopGhost
import Derived.Lib.SlicesCompact
import Derived.Lib.QuietBelow
set_option maxRecDepth 100000
set_option maxHeartbeats 8000000
namespace Go.Proofs.YtcilfelgpmfehaaGreat
section
open Go.RowKit
attribute [local go_sem ↓] zl zk qg qf
attribute [local go_sem] zf zh
variable {w w' w2 W W' : World} {g : Nat}

def Ahd (x y:Sn):Prop:=x.rep < y.rep∨(x.rep=y.rep/\x.hi < y.lo)
theorem bg (Z:List Int):∀ (L:List Sn) (a:Sn),chain Z a L -> (∀ y∈L,a.rep < y.rep∨(a.rep=y.rep/\a.hi < y.lo))/\L.Pairwise Ahd/\∀ y∈L,y.lo <= y.hi
 | [],_,_=>⟨fun y hy=>(by cases hy),List.Pairwise.nil,fun y hy=>by cases hy⟩
 | c :: t,a,h=>by
  have S:=h.1;obtain ⟨h1,h2,h3⟩:=bg Z t c h.2
  have ha:a.rep < c.rep∨(a.rep=c.rep/\a.hi < c.lo):=by
   have h4:=S.rep;by_cases e:c.rep=a.rep
   ·have:=S.gap e;exact .inr ⟨e.symm,by omega⟩
   ·exact .inl (by omega)
  have ho:=S.ord;refine ⟨fun y hy=>?_,List.Pairwise.cons h1 h2,fun y hy=>?_⟩
  ·rcases List.mem_cons.1 hy with rfl | hy
   ·exact ha
   ·rcases h1 y hy with h5 | ⟨h5,h6⟩
    ·left;omega
    ·rcases ha with h7 | ⟨h7,h8⟩
     ·left;omega
     ·right;exact ⟨by omega,by omega⟩
  ·rcases List.mem_cons.1 hy with rfl | hy
   ·exact ho
   ·exact h3 y hy
theorem zgA {L:List Sn} (h:L.Pairwise Ahd) {a b:Nat} (dW:a < b) (hb:b < L.length):Ahd (L.getD a sn0) (L.getD b sn0):=by
 have e1:L.getD a sn0=L[a]'(by omega):=by simp [List.getD,List.getElem?_eq_getElem (show a < L.length by omega)]
 have e2:L.getD b sn0=L[b]'(by omega):=by simp [List.getD,List.getElem?_eq_getElem (show b < L.length by omega)]
 rw [e1,e2];exact List.pairwise_iff_getElem.1 h a b (by omega) hb dW
theorem zgJ {L:List Sn} {a:Nat} (h:a < L.length):L.getD a sn0∈L:=by
 have e1:L.getD a sn0=L[a]'h:=by simp [List.getD,List.getElem?_eq_getElem h]
 rw [e1];exact List.getElem_mem h
theorem zab {P:Pst} (h:af P) (d:Rn):∀ a b,a <= b -> b < P.cloud.length -> nrC (P.cloud.getD b sn0) d < 0 -> nrC (P.cloud.getD a sn0) d < 0:=by
 intro a b dW hb hn;obtain ⟨-,hp,ho⟩:=bg _ _ _ h.2;by_cases e:a=b
 ·rw [e];exact hn
 ·have h1:=zgA hp (show a < b by omega) hb;have h2:=ho _ (zgJ hb);rw [yN] at hn ⊢;rcases h1 with h3 | ⟨h3,h4⟩
  ·rcases hn with h5 | ⟨h5,h6⟩
   ·left;omega
   ·left;omega
  ·rcases hn with h5 | ⟨h5,h6⟩
   ·left;omega
   ·right;exact ⟨by omega,by omega⟩
theorem zc2 {P:Pst} (h:af P) {d:Rn} {i n:Nat} (hn:P.cloud.length=n) (hF:fF P.cloud d n i):cu ⟨P.vec,(P.cloud.drop i).take 1⟩ d↔cu P d:=by
 subst hn;obtain ⟨-,hp,ho⟩:=bg _ _ _ h.2;rw [qB,qB]
 have key:(∃ c,c∈(P.cloud.drop i).take 1/\c.rep=d.lo/\c.lo <= d.hi/\d.hi <= c.hi)↔(∃ c,c∈P.cloud/\c.rep=d.lo/\c.lo <= d.hi/\d.hi <= c.hi):=by
  constructor
  ·rintro ⟨c,hc,hr⟩;exact ⟨c,List.mem_of_mem_drop (List.mem_of_mem_take hc),hr⟩
  ·rintro ⟨c,hc,h1,h2,h3⟩;obtain ⟨j,hj,rfl⟩:=List.getElem_of_mem hc
   have e1:P.cloud.getD j sn0=P.cloud[j]:=by simp [List.getD,List.getElem?_eq_getElem hj]
   rw [<- e1] at h1 h2 h3;by_cases p5:j < i
   ·have:=(yN _ _).1 (hF.2.1 j p5);omega
   ·by_cases hij:j=i
    ·subst hij;refine ⟨_,?_,h1,h2,h3⟩;rw [e1,List.drop_eq_getElem_cons hj,List.take_succ_cons];exact List.mem_cons_self
    ·exfalso;have h4:=hF.2.2 (by omega);have h5:=zgA hp (show i < j by omega) hj
     have h6:¬ nrC (P.cloud.getD i sn0) d < 0:=by omega
     rw [yN] at h6;rcases h5 with h7 | ⟨h7,h8⟩
     ·exact h6 (.inl (by omega))
     ·exact h6 (.inr ⟨by omega,by omega⟩)
 rw [key]
def inB (P:Pst) (e:K.En):Bool:=decide (0 <= e.rep) && (decide (e.rep < 16) && (decide (1 <= e.num) && (decide (e.num <= 1000000000) && (decide (e.num <= P.vec.getD e.rep.toNat 0) || P.cloud.any (fun c=>decide (c.rep=e.rep) && (decide (c.lo <= e.num) && decide (e.num <= c.hi)))))))
theorem qk (P:Pst) (e:K.En):inB P e=true↔cu P ⟨e.rep,e.num⟩:=by
 rw [qB];unfold inB;simp only [Bool.and_eq_true,Bool.or_eq_true,decide_eq_true_eq,List.any_eq_true]
def pkB (P:Pst) (ins:Bool) (e:K.En):Bool:=inB P e == ins
theorem zaT {e:K.En} {T:TypeId} (h:K.Box W g T e):fR W ⟨g,0,none⟩ ⟨e.rep,e.num⟩:=⟨h.at.c0,h.at.c1⟩
theorem zaM (p:Pv) (gp gi:Nat) (ins:Bool) (e:K.En) (w:World) (hI:af p.P) (hp:aE w gp p) (hS:ak w p) (hi:w.heap[gi]? = some (.cells #[.bool ins] 4 (0,0))) :
  Calls Tryz.prog 113 #[K.EV e,.pointer (some ⟨gp,0,none⟩),.pointer (some ⟨gi,0,none⟩)] w fun x w'=>x = .returned (.bool (pkB p.P ins e))/\Below w.heap.size w w':=by
 have b1:=K.ze w (.cells (K.EC e) 66);have x1:=K.qx w 66 e;obtain ⟨w1,dH⟩:∃ w1,w.alloc (.cells (K.EC e) 66)=w1:=⟨_,rfl⟩;obtain ⟨g1,dx⟩:∃ g1,w.heap.size=g1:=⟨_,rfl⟩;rw [dH] at b1 x1;rw [dx] at x1;have rW:gi < w.heap.size:=(Array.getElem?_eq_some_iff.1 hi).1;have HX:Hid (aE w1 gp p/\ak w1 p/\w1.heap[gi]? = some (.cells #[.bool ins] 4 (0,0))/\K.Box w1 g1 66 e/\gi < w1.heap.size):=⟨hp.below b1,hS.below b1,(b1.block gi rW).trans hi,x1,Nat.lt_of_lt_of_le rW b1.size⟩
 have aw:Hid (∀ W,Below w1.heap.size w1 W -> (ldP (.pointer (some ⟨gp,0,none⟩))).run Tryz.prog W = .ok (PV p) W/\(ldD (.pointer (some ⟨g1,0,none⟩))).run Tryz.prog W = .ok (RV ⟨e.rep,e.num⟩) W/\W.cell? ⟨gi,0,none⟩=some (.bool ins)):=fun W hW=>by
  refine ⟨zi (HX.out.1.below hW).at,qw (zaT (HX.out.2.2.2.1.below hW)),?_⟩;have h:=(hW.block gi HX.out.2.2.2.2).trans HX.out.2.2.1;simp [World.cell?,h]
 have HB:=hide b1;have HI:=hide hI;clear b1 x1 hp hS hi rW hI;go_enter Tryz.func113,Tryz.ntmps113;go_wp2_with fail;clear dH dx;refine wp_region_held_drew (S:=fun W=>(ldP (.pointer (some ⟨gp,0,none⟩))).run Tryz.prog W = .ok (PV p) W/\(ldD (.pointer (some ⟨g1,0,none⟩))).run Tryz.prog W = .ok (RV ⟨e.rep,e.num⟩) W/\W.cell? ⟨gi,0,none⟩=some (.bool ins)) (by kernel_rfl) (aw.out _ (zd w1)) (fun hHeld=>?_);refine wU 0 ?_;refine wU 1 ?_;refine wU 2 ?_;refine wU 4 ?_;refine wU 5 ?_;refine wU 7 ?_;refine wR 3 fun K hK=>?_;go_simp;go_wp2_with fail;refine (zel p ⟨e.rep,e.num⟩ _ (HX.out.2.1.below (zd w1)) (fun a b dW hb=>zab HI.out _ a b dW (by rw [HX.out.2.1.cloud.len];exact hb))).mono ?_;rintro x w3 ⟨q,i,rfl,hq,hF,hP,b3⟩;have gW:Below w1.heap.size w1 w3:=(zd w1).trans b3
 have aN:=hide gW;have HQ:=hide hq
 have HN:Hid (cu q.P ⟨e.rep,e.num⟩↔cu p.P ⟨e.rep,e.num⟩):=by rw [hP];exact zc2 HI.out HX.out.2.1.cloud.len hF
 refine hK.out _ _ (aw.out _ gW) (fun hHeld=>?_);clear hK K b3 gW hq hF hP;refine wR 6 fun K hK=>?_;go_simp;go_wp2_with fail;refine (zaL q ⟨e.rep,e.num⟩ _ HQ.out).mono ?_;rintro x w4 ⟨b,rfl,hb,b4⟩;have sR:Below w1.heap.size w1 w4:=aN.out.trans (b4.mono aN.out.size);have aR:=wTr HB sR
 have HR:Hid (pkB p.P ins e=(b == ins)):=by
  show _=_
  unfold pkB;congr 1;have h1:=qk p.P e;have h2:=hb.out
  cases hx:inB p.P e <;> cases b
  ·rfl
  ·rw [hx] at h1;exact absurd (h1.2 (HN.out.1 (h2.1 rfl))) (by simp)
  ·rw [hx] at h1;have:=h2.2 (HN.out.2 (h1.1 rfl));cases this
  ·rfl
 refine hK.out _ _ (aw.out _ sR) (fun hHeld=>?_);clear hK K b4 sR hb HN;refine wU 8 ?_;refine wU 9 ?_;refine wD ?_ _;clear hHeld;go_wp2_with fail;go_ret;exact ⟨zm HR.out.symm,aR.out⟩
def PtA (w w':World) (x:Ending) (L:List K.En) (P:Pst) (ins:Bool):Prop:=(K.chk L=0/\af P/\K.cU w w' x (L.filter (pkB P ins)) 0)∨(¬ (K.chk L=0/\af P)/\K.cU w w' x [] 1)
theorem zb5 (ao:Option Addr) (n cap:Nat) (L:List K.En) (p:Pv) (ins:Bool) (w:World) (hS:K.aF w ao n cap L) (hP:ak w p) :
  Calls Tryz.prog 75 #[.slice ao n cap,PV p,.bool ins] w fun x w'=>PtA w w' x L p.P ins:=by
 have ND:∀ (fn:Fn) (first cap:Array Value) (w:World),(Instr.makeFunc fn first cap).run Tryz.prog w = .ok (.func fn first cap) w:=fun _ _ _ _=>rfl;have b1:=ze w (.cells (PC p) 26);have x1:=zq w p;have s1:=World.size_alloc w (.cells (PC p) 26);obtain ⟨w1,dH⟩:∃ w1,w.alloc (.cells (PC p) 26)=w1:=⟨_,rfl⟩;obtain ⟨g1,dx⟩:∃ g1,w.heap.size=g1:=⟨_,rfl⟩;rw [dH] at b1 x1 s1;rw [dx] at x1 s1;have b2:=ze w1 (.cells #[.bool ins] 4);have x2:=heap_alloc_new w1 (.cells #[.bool ins] 4);obtain ⟨w2,eZ⟩:∃ w2,w1.alloc (.cells #[.bool ins] 4)=w2:=⟨_,rfl⟩;rw [eZ] at b2 x2;rw [s1] at x2;have b12:=b1.trans (b2.mono b1.size);have HB:=hide b12;have HX:Hid (aE w2 g1 p/\w2.heap[g1+1]? = some (.cells #[.bool ins] 4 (0,0))/\ak w2 p/\K.aF w2 ao n cap L):=⟨x1.below b2,x2,hP.below b12,hS.below b12⟩;clear b1 b2 b12 x1 x2 hS hP
 go_enter Tryz.func75,Tryz.ntmps75;go_wp2_with fail;clear dH eZ s1 dx;refine (K.qu ao n cap L _ HX.out.2.2.2).mono ?_;rintro x w3 ⟨rfl,b3⟩;have aN:=wTr HB b3;have hl:g1+1 < w2.heap.size:=(Array.getElem?_eq_some_iff.1 HX.out.2.1).1;have ex:Hid (aE w3 g1 p/\w3.heap[g1+1]? = some (.cells #[.bool ins] 4 (0,0))/\ak w3 p/\K.aF w3 ao n cap L):=⟨HX.out.1.below b3,(b3.block _ hl).trans HX.out.2.1,HX.out.2.2.1.below b3,HX.out.2.2.2.below b3⟩;clear b3 hl HX HB;rcases K.wn L with hc | hc;rotate_left
 ·have HE:Hid (PtA w w3 (.returned (.tuple #[.slice none 0 0,.int .i64 1])) L p.P ins):=.inr ⟨(fun h=>by rw [hc] at h;exact absurd h.1 (by decide)),_,_,_,rfl,K.aF.none _,aN.out,fun ad h=>by cases h⟩;rw [hc];clear hc;go_wp2_with fail;go_ret2;exact HE.out
 ·rw [hc]
  have l3:=zi ex.out.1.at
  have HC:=hide hc;clear hc;go_wp2_with fail;refine (qP p _ ex.out.2.2.1).mono ?_;rintro x w4 ⟨b,rfl,hb,b4⟩;have aR:=wTr aN b4;have hl:g1+1 < w3.heap.size:=(Array.getElem?_eq_some_iff.1 ex.out.2.1).1;have eC:Hid (aE w4 g1 p/\w4.heap[g1+1]? = some (.cells #[.bool ins] 4 (0,0))/\ak w4 p/\K.aF w4 ao n cap L):=⟨ex.out.1.below b4,(b4.block _ hl).trans ex.out.2.1,ex.out.2.2.1.below b4,ex.out.2.2.2.below b4⟩;have HI:Hid (BIf b (af p.P)):=hb;clear b4 hl ex aN l3 hb
  cases b with
  | false =>
   have HE:Hid (PtA w w4 (.returned (.tuple #[.slice none 0 0,.int .i64 1])) L p.P ins):=.inr ⟨(fun h=>by have:=HI.out.2 h.2;cases this),_,_,_,rfl,K.aF.none _,aR.out,fun ad h=>by cases h⟩;go_wp2_with fail;go_ret2;exact HE.out
  | true =>
   have I7:Hid (af p.P):=HI.out.1 rfl
   have HP:Hid (∀ W,Below w4.heap.size w4 W -> ∀ e,Calls Tryz.prog 113 #[K.EV e,.pointer (some ⟨g1,0,none⟩),.pointer (some ⟨g1+1,0,none⟩)] W fun x w'=>x = .returned (.bool (pkB p.P ins e))/\Below W.heap.size W w'):=fun W hW e =>
    zaM p g1 (g1+1) ins e W I7.out (eC.out.1.below hW) (eC.out.2.2.1.below hW) ((hW.block _ (Array.getElem?_eq_some_iff.1 eC.out.2.1).1).trans eC.out.2.1)
   have ig:=hide (K.zb4 ao n cap L g1 (g1+1) (pkB p.P ins) w4 eC.out.2.2.2 HP.out);clear HI HP;go_wp2_with fail;refine ig.out.mono ?_;rintro x w5 ⟨bo,m,c,rfl,S5,b5,F5⟩;have HE:Hid (PtA w w5 (.returned (.tuple #[.slice bo m c,.int .i64 0])) L p.P ins):=.inl ⟨HC.out,I7.out,_,_,_,rfl,S5,aR.out.trans (b5.mono aR.out.size),fun ad h=>Nat.le_trans aR.out.size (F5 ad h)⟩;clear S5 b5 F5 ig;go_wp2_with fail;go_ret2;exact HE.out
theorem PtA.pre {L:List K.En} {P:Pst} {ins:Bool} {x:Ending} (b:Below w.heap.size w W) (h:PtA W W' x L P ins):PtA w W' x L P ins:=by
 rcases h with ⟨h1,h2,ao,n,c,h3,h4,h5,h6⟩ | ⟨h1,ao,n,c,h3,h4,h5,h6⟩
 ·exact .inl ⟨h1,h2,ao,n,c,h3,h4,b.trans (h5.mono b.size),fun ad e=>Nat.le_trans b.size (h6 ad e)⟩
 ·exact .inr ⟨h1,ao,n,c,h3,h4,b.trans (h5.mono b.size),fun ad e=>Nat.le_trans b.size (h6 ad e)⟩
theorem PtA.shape {L:List K.En} {P:Pst} {ins:Bool} {x:Ending} (h:PtA w W' x L P ins):∃ bo m c er,x = .returned (.tuple #[.slice bo m c,.int .i64 er])/\PtA w W' (.returned (.tuple #[.slice bo m c,.int .i64 er])) L P ins:=by
 have h':=h;rcases h with ⟨h1,h2,ao,n,c,rfl,h4⟩ | ⟨h1,ao,n,c,rfl,h4⟩
 ·exact ⟨ao,n,c,0,rfl,h'⟩
 ·exact ⟨ao,n,c,1,rfl,h'⟩
theorem jh (ao:Option Addr) (n cap:Nat) (L:List K.En) (p:Pv) (w:World) (hS:K.aF w ao n cap L) (hP:ak w p) :
  Calls Tryz.prog 46 #[.slice ao n cap,PV p] w fun x w'=>PtA w w' x L p.P false:=by
 have b1:=ze w (.cells (PC p) 26);have x1:=zq w p;obtain ⟨w1,dH⟩:∃ w1,w.alloc (.cells (PC p) 26)=w1:=⟨_,rfl⟩;obtain ⟨g1,dx⟩:∃ g1,w.heap.size=g1:=⟨_,rfl⟩;rw [dH] at b1 x1;rw [dx] at x1
 have l1:=zi x1.at
 have HB:=hide b1;have HC:=hide (zb5 ao n cap L p false w1 (hS.below b1) (hP.below b1));clear b1 x1 hS hP;go_enter Tryz.func46,Tryz.ntmps46;go_wp2_with fail;clear dH dx;refine HC.out.mono ?_;rintro x w2 hx;obtain ⟨bo,m,c,er,rfl,hE⟩:=(PtA.pre HB.out hx).shape;have HE:=hide hE;clear hx hE;go_wp2_with fail;go_ret2;exact HE.out
end
section
open Go.RowKit Go.Sort Go.Lib
attribute [local go_sem ↓] qg qf
structure Kd (w w':World) (g:Nat):Prop where
 os:w'.os=w.os
 tape:w'.tape=w.tape
 output:w'.output=w.output
 size:w.heap.size <= w'.heap.size
 block:∀ k,k < w.heap.size -> k≠g -> w'.heap[k]? = w.heap[k]?
theorem Kd.refl (w:World) (g:Nat):Kd w w g:=⟨rfl,rfl,rfl,Nat.le_refl _,fun _ _ _=>rfl⟩
theorem Kd.of_below {w w':World} {g:Nat} (h:Below w.heap.size w w'):Kd w w' g:=⟨h.os,h.tape,h.output,h.size,fun k hk _=>h.block k hk⟩
theorem Kd.trans {w w' w2:World} {g:Nat} (h:Kd w w' g) (k:Kd w' w2 g):Kd w w2 g:=⟨k.os.trans h.os,k.tape.trans h.tape,k.output.trans h.output,Nat.le_trans h.size k.size,fun j hj hn=>(k.block j (Nat.lt_of_lt_of_le hj h.size) hn).trans (h.block j hj hn)⟩
theorem Kd.below {w w' w0:World} {g B:Nat} (b:Below B w0 w) (h:Kd w w' g) (hg:B <= g) (hB:B <= w.heap.size):Below B w0 w':=⟨h.os.trans b.os,h.tape.trans b.tape,h.output.trans b.output,Nat.le_trans b.size h.size,fun k hk=>(h.block k (by omega) (by omega)).trans (b.block k hk)⟩
def eqD (x y:Rn):Bool:=x.lo == y.lo && x.hi == y.hi
theorem yY (x y:Rn):eqD x y=true↔x=y:=by
 obtain ⟨a,b⟩:=x;obtain ⟨c,d⟩:=y;simp [eqD]
theorem xT (x y:Rn) (w:World):(Op.equalIn 10000 64 (.agg (RC x)) (.agg (RC y))).run Tryz.prog w = .ok (eqD x y) w:=by
 have u3:=Tryz.underlying3;have a3:=Tryz.isAgg3;have z3:=Tryz.sizeOf3
 have hS:Tryz.prog.underlying 64=some (.struct (Tryz.prog.fieldsOf 64)):=by kernel_rfl
 have hp:Tryz.prog.stoodInHeld 64=false:=by kernel_rfl
 show (Op.equalIn 10000 64 (.agg #[.int .i64 x.lo,.int .i64 x.hi]) (.agg #[.int .i64 y.lo,.int .i64 y.hi])).run Tryz.prog w=_
 rw [show (10000:Nat)=9999+1 from rfl,run_equalIn_struct w 9999 64 _ _ hS hp];simp only [Program.fieldsOf,Tryz.underlying64];go_simp;unfold eqD;by_cases h1:x.lo=y.lo <;> by_cases h2:x.hi=y.hi <;> simp [h1,h2]
theorem MR.on {W W':World} {ad:Addr} {d:Array Rn} (M:MR W ad d) (hb:Below W.heap.size W W'):MR W' ad d:=
 ⟨fun j hj=>by rw [hb.cell (p:=⟨ad.block,0+j,none⟩) M.lt,hb.frozen (p:=⟨ad.block,0+j,none⟩) M.lt];exact M.hk j hj,Nat.lt_of_lt_of_le M.lt hb.size,M.ha⟩
theorem kq (d:Array Rn) (i:Nat) (e:Rn) (hi:i < d.size):setMany (flatK cF 2 d) (i * 2) (cF e)=flatK cF 2 (d.setIfInBounds i e):=by
 refine ext_get! (by simp) fun t ht=>?_
 have rQ:t < d.size * 2:=by simpa using ht
 rw [get_setMany _ _ _ t (by simpa using rQ),get_flatK _ _ _ t rQ,get_flatK _ _ _ t (by simpa using rQ),vu];by_cases a:t / 2=i
 ·rw [if_pos ((blk_iff 2 i t (by omega)).2 a),a,getElem!_set_same d i e hi,show t - i * 2=t % 2 by omega]
 ·rw [if_neg (fun h=>a ((blk_iff 2 i t (by omega)).1 h)),getElem!_set_other d i _ e a]
theorem zfy (W:World) (g:Nat) (F:Array Value):Kd W (putRow id W g 0 F) g:=⟨rfl,rfl,rfl,by simp [putRow,mapBlock],fun k _ hn=>by simp [putRow,mapBlock,Array.getElem?_modify,show ¬ g=k from fun e=>hn e.symm]⟩
theorem MR.setCells {W:World} {ad:Addr} {d:Array Rn} (M:MR W ad d) (i:Nat) (e:Rn) (hi:i < d.size) :
  W.setCells ad.block (i * 2) (cF e)=putRowK cF 2 W ad.block 0 (d.setIfInBounds i e):=by
 have h1:=putRowK_self cF 2 W ad.block 0 d M.hk;have h2:=setCells_putRow W ad.block 0 (cF e) (i * 2) (flatK cF 2 d) (by rw [vu,size_flatK];have:=Nat.mul_le_mul_right 2 (show i+1 <= d.size from hi);omega);unfold putRowK at h1;rw [h1,kq d i e hi,Nat.zero_add] at h2;exact h2
theorem MR.store {W:World} {ad:Addr} {d:Array Rn} (M:MR W ad d) (i:Nat) (e:Rn) (hi:i < d.size) :
  ∃ W':World,(stD (.pointer (some (ad.add (i * 2)))) (RV e)).run Tryz.prog W = .ok () W'/\MR W' ad (d.setIfInBounds i e)/\Kd W W' ad.block/\W'.heap.size=W.heap.size:=by
 have hs:=stores_of_holds Tryz.prog (W:=W) (blk:=ad.block) (off:=0) (F:=flatK cF 2 d) M.hk (i * 2) (cF e) (by rw [vu,size_flatK];have:=Nat.mul_le_mul_right 2 (show i+1 <= d.size from hi);omega) (jE e);rw [Nat.zero_add,M.setCells i e hi] at hs;refine ⟨_,?_,⟨holdsK_putRowK cF 2 W ad.block 0 d _ M.hk (by simp),by show ad.block < (putRow id W ad.block 0 _).heap.size;rw [size_putRow];exact M.lt,M.ha⟩,zfy W ad.block _,size_putRow _ _ _ _ _⟩;have ha:=M.ha;rw [ha,Addr.add_lit,Nat.zero_add];unfold stD
 cases hq:Tryz.prog.info? 64 with
 | none=>have:=iY;simp [hq] at this
 | some x =>
  have hz:x.size=2:=by have:=iY;simpa [hq] using this
  have GI:(storeCells ⟨ad.block,i * 2,none⟩ (RC e).toList 0).run Tryz.prog W = .ok () (putRowK cF 2 W ad.block 0 (d.setIfInBounds i e)):=hs;simp only [Instr.storeAt,Instr.sureAddr,Sem.run_bind,Sem.run_pure,Result.andThen,storeVar,sizeOf,typeInfo,zD,zN];simp [GI,hq,hz]
theorem kr (d:Array Rn):∀ (xs:List Rn) (i:Nat),i+xs.length <= d.size -> setMany (flatK cF 2 d) (i * 2) (xs.map cF).flatten=flatK cF 2 (Lib.lay d i xs)
 | [],_,_=>rfl
 | x :: r,i,h=>by
  have hi:i < d.size:=by simp at h;omega
  have key:∀ (F:Array Value) (s:Nat) (a b:List Value),setMany F s (a++b)=setMany (setMany F s a) (s+a.length) b:=by
   intro F s a
   induction a generalizing F s with
   | nil=>intro b;rfl
   | cons v a ih=>intro b;simp only [List.cons_append,setMany,List.length_cons];rw [ih,show s+1+a.length=s+(a.length+1) by omega]
  rw [List.map_cons,List.flatten_cons,key,kq d i x hi,vu,show i * 2+2=(i+1) * 2 by omega];exact kr (d.setIfInBounds i x) r (i+1) (by simp at h ⊢;omega)
theorem sD (w:World):(zeroValue 64).run Tryz.prog w = .ok (RV rn0) w:=Tryz.zeroValue64 w
theorem pu (n:Nat):(Builtin.zeroCells (RC rn0) n).toList=((List.replicate n rn0).map cF).flatten:=by
 show _=rcs (List.replicate n rn0)
 apply List.ext_getElem?;intro t;by_cases ht:t < n * 2
 ·have h2:=vQ (List.replicate n rn0) (t / 2) (t % 2) (by simp;omega) (by omega);rw [show t / 2 * 2+t % 2=t by omega] at h2
  have hg:(List.replicate n rn0).getD (t / 2) rn0=rn0:=by simp [List.getD,show t / 2 < n by omega]
  rw [h2,hg]
  have h1:(Builtin.zeroCells (RC rn0) n).toList[t]? = some ((RC rn0)[t % 2]!):=by simp [Builtin.zeroCells,zN,ht]
  rw [h1]
  have:t % 2=0∨t % 2=1:=by omega
  rcases this with h | h <;> rw [h] <;> rfl
 ·rw [List.getElem?_eq_none (by simp [Builtin.zeroCells,zN];omega),List.getElem?_eq_none (by rw [qm];simp;omega)]
theorem kj (d:Array Rn):∀ (xs:List Rn) (k:Nat),(Lib.lay d k xs).size=d.size:=by
 intro xs
 induction xs generalizing d with
 | nil=>intro k;rfl
 | cons x r ih=>intro k;rw [Lib.lay,ih];simp
theorem MR.clear {W:World} {ad:Addr} {d:Array Rn} (M:MR W ad d) (kk:Nat) (hk:kk < d.size) (c:Nat) :
  ∃ (W':World) (d':Array Rn),(∀ ty,(Builtin.clear_ #[123] ty #[.slice (some (ad.add (kk * 2))) (d.size - kk) c]).run Tryz.prog W = .ok (.tuple #[]) W')/\MR W' ad d'/\d'.size=d.size/\(∀ j,j < kk -> d'[j]! = d[j]!)/\Kd W W' ad.block/\W'.heap.size=W.heap.size:=by
 obtain ⟨m,hm⟩:∃ m,d.size - kk=m:=⟨_,rfl⟩;have h1:=putRowK_self cF 2 W ad.block 0 d M.hk
 have cP:(((List.replicate m rn0).map cF).flatten).length=m * 2:=by
  have:=qm (List.replicate m rn0);rwa [List.length_replicate] at this
 have hs:=stores_of_holds Tryz.prog (W:=W) (blk:=ad.block) (off:=0) (F:=flatK cF 2 d) M.hk (kk * 2) ((List.replicate m rn0).map cF).flatten (by rw [cP,size_flatK];omega) (by
  intro v hv;obtain ⟨l,hl,hv⟩:=List.mem_flatten.1 hv;obtain ⟨e,_,rfl⟩:=List.mem_map.1 hl
  exact jE e v hv)
 have h2:=setCells_putRow W ad.block 0 ((List.replicate m rn0).map cF).flatten (kk * 2) (flatK cF 2 d) (by rw [cP,size_flatK];omega);unfold putRowK at h1;rw [h1,kr d (List.replicate m rn0) kk (by simp;omega),Nat.zero_add] at h2;rw [Nat.zero_add,h2] at hs;refine ⟨_,Lib.lay d kk (List.replicate m rn0),fun ty=>?_,⟨holdsK_putRowK cF 2 W ad.block 0 d _ M.hk (kj _ _ _),by show ad.block < (putRow id W ad.block 0 _).heap.size;rw [size_putRow];exact M.lt,M.ha⟩,kj _ _ _,fun j hj=>?_,zfy W ad.block _,size_putRow _ _ _ _ _⟩
 ·have ha:=M.ha;rw [ha,Addr.add_lit,Nat.zero_add,hm];obtain ⟨m',rfl⟩:∃ m',m=m'+1:=⟨m - 1,by omega⟩;have hz:=sD W;simp [Builtin.clear_,run_underlying Tryz.underlying123,hz];rw [zD,pu,hs];rfl
 ·have:=Lib.lay_get? (List.replicate m rn0) d kk j (by simp;omega);rw [if_neg (by omega)] at this;rw [getElem!_def,getElem!_def,this]
attribute [local go_sem ↓] xT
attribute [local go_sem] zZ zD zN
def clD (a:Value):Sem Value:=Builtin.clear_ #[123] 0 #[a]
theorem zgP (a:Value):Builtin.clear_ #[123] 0 #[a]=clD a:=rfl
attribute [local go_sem ↓] zgP
def dy (w w':World) (e:Ending) (ad:Addr) (cap:Nat) (d:Array Rn):Prop:=
 ∃ k d',e = .returned (.slice (some ad) k cap)/\MR w' ad d'/\k <= d.size/\d'.size=d.size/\d'.toList.take k=compactUpTo d d.size/\Kd w w' ad.block
theorem xM {w w':World} {ad:Addr} {cap n:Nat} {d:Array Rn} (hn:d.size=n) (M:MR w' ad d) (hb:Kd w w' ad.block) (ch:∀ j,j < d.size -> keeps d j=true):dy w w' (.returned (.slice (some ad) n cap)) ad cap d:=
 ⟨n,d,rfl,M,by omega,rfl,by rw [compactUpTo_all d _ ch,range_map_get,List.take_of_length_le (by simp;omega)],hb⟩
theorem y5 {d dk d':Array Rn} {n kk:Nat} (hI:CompInv d n kk dk) (hn:d.size=n) (hs:d'.size=dk.size) (hl:∀ j,j < kk -> d'[j]! = dk[j]!):d'.toList.take kk=compactUpTo d d.size:=by
 rw [hn];have rN:=hI.lt;have eE:=hI.size;apply List.ext_getElem?;intro j;by_cases hj:j < kk
 ·rw [hI.low j hj,<- hl j hj,List.getElem?_take,if_pos hj,Array.getElem?_toList,Array.getElem?_eq_getElem (by omega),getElem!_pos d' j (by omega)]
 ·rw [List.getElem?_eq_none (by rw [List.length_take];omega),List.getElem?_eq_none (by rw [hI.len];omega)]
theorem j5 (ad:Addr) (cap n:Nat) (d:Array Rn) (w:World) (M:MR w ad d) (hn:d.size=n) (hb:n <= 8796093022207) (nM:n <= cap) (fw:cap <= 9223372036854775807) :
  Calls Tryz.prog 106 #[.slice (some ad) n cap] w fun e w'=>dy w w' e ad cap d:=by
 have HM:=hide M;have HN:=hide hn;clear M hn;by_cases h2:n < 2
 ·have HF:Hid (dy w w (.returned (.slice (some ad) n cap)) ad cap d):=xM HN.out HM.out (Kd.refl _ _) (fun j hj=>keeps_lt_one d j (by have:=HN.out;omega));go_enter Tryz.func106,Tryz.ntmps106;go_wp2_with fail;go_ret;exact HF.out
 ·go_enter Tryz.func106,Tryz.ntmps106;go_wp2_with fail;go_loopg [3] n (fun g s wr=>∃ k:Nat,1 <= k/\k <= n/\n - k <= g/\s = .int .i64 k/\Hid (Below w.heap.size w wr/\∀ j,j < k -> keeps d j=true))
  case atStart=>exact ⟨1,Nat.le_refl _,by omega,by omega,rfl,Below.refl _ _,keeps_lt_one d⟩
  case round =>
   obtain ⟨k,sh,hk,hg,rfl,H⟩:=hrel
   rename World=>w4
   have iC:=hide (HM.out.on H.out.1);by_cases aq:k < n
   ·obtain ⟨j,hj⟩:∃ j,k - 1=j:=⟨_,rfl⟩
    have hz:IntKind.i64.wrap ((k:Int) - 1)=(j:Int):=by rw [IntKind.wrap_i64];omega
    have iR:j < n:=by omega
    have A0:=hide (iC.out.at k (by rw [HN.out];exact aq));have A1:=hide (iC.out.at j (by rw [HN.out];exact iR));obtain ⟨x,Hx⟩:∃ x,Hid (d[k]! = x):=⟨_,rfl⟩;obtain ⟨y,Hy⟩:∃ y,Hid (d[j]! = y):=⟨_,rfl⟩;rw [Hx.out] at A0;rw [Hy.out] at A1;have Hj:=hide hj;clear hj;have l0:∀ d os,(ldD (.pointer (some (ad.add (k * 2))))).run Tryz.prog (Sort.grow (redrawn w4 d) os) = .ok (RV x) (Sort.grow (redrawn w4 d) os):=fun d os=>qw (A0.out.on (below_regrown w4 d os));have l1:∀ d os,(ldD (.pointer (some (ad.add (j * 2))))).run Tryz.prog (Sort.grow (redrawn w4 d) os) = .ok (RV y) (Sort.grow (redrawn w4 d) os):=fun d os=>qw (A1.out.on (below_regrown w4 d os));obtain ⟨q,hq⟩:∃ q,eqD x y=q:=⟨_,rfl⟩
    cases q with
    | false =>
     have HK:Hid (keeps d k=true):=keeps_pos (by rw [Hj.out,Hx.out,Hy.out];intro h;rw [(yY x y).2 h] at hq;cases hq);go_wp2_with fail;refine wp_region_quiet_below (by kernel_rfl) (by kernel_rfl) ?_
     repeat (with_reducible (refine wpQuiet_step ?_);intro K hK;go_simp;(try rw [if_neg (by unfold undef;simp)]);first | (with_reducible (refine hK _ ?_);clear hK K) | (apply Exists.intro;refine ⟨fun _=>?_,hK _ ?_⟩;(fail);clear hK K))
     with_reducible (refine wpQuiet_nil ?_)
     intro w5 hw';obtain ⟨⟨dq,osq⟩,hw''⟩:=hw'
     have b5:Below w4.heap.size w4 w5:=by rw [hw''];exact below_regrown w4 dq osq
     clear hw'' dq osq
     have H5:Hid (Below w.heap.size w w5/\∀ j,j < k+1 -> keeps d j=true):=⟨H.out.1.trans (b5.mono H.out.1.size),fun i hi=>by
      by_cases e:i=k
      ·rw [e];exact HK.out
      ·exact H.out.2 i (by omega)⟩
     clear b5 l0 l1;go_wp2_with fail;go_roundg (n - (k+1))
     case measure=>omega
     case rel=>exact ⟨k+1,by omega,by omega,Nat.le_refl _,by go_num,H5⟩
    | true =>
     have HK:Hid (keeps d k=false):=keeps_neg (by omega) (by rw [Hj.out,Hx.out,Hy.out];exact (yY x y).1 hq);go_wp2_with fail;refine wp_region_quiet_below (by kernel_rfl) (by kernel_rfl) ?_
     repeat (with_reducible (refine wpQuiet_step ?_);intro K hK;go_simp;(try rw [if_neg (by unfold undef;simp)]);first | (with_reducible (refine hK _ ?_);clear hK K) | (apply Exists.intro;refine ⟨fun _=>?_,hK _ ?_⟩;(fail);clear hK K))
     with_reducible (refine wpQuiet_nil ?_)
     intro w5 hw';obtain ⟨⟨dq,osq⟩,hw''⟩:=hw'
     have b5:Below w4.heap.size w4 w5:=by rw [hw''];exact below_regrown w4 dq osq
     clear hw'' dq osq;have Bn:=hide (iC.out.on b5);have ee:Hid (Kd w w5 ad.block):=(Kd.of_below H.out.1).trans (Kd.of_below b5);have ig:Hid (CompInv d (k+1) k d):=CompInv.start H.out.2 HK.out;clear b5 l0 l1 hq;go_wp2_with fail;go_loopg [3,5] n (fun g s3 s5 wr=>∃ (kk k2:Nat) (dk:Array Rn),1 <= k2/\k+k2 <= n/\kk < n/\n - (k+k2) <= g/\s3 = .int .i64 kk/\s5 = .int .i64 k2/\Hid (MR wr ad dk/\CompInv d (k+k2) kk dk/\Kd w wr ad.block))
     case atStart=>exact ⟨k,1,d,Nat.le_refl _,by omega,aq,by omega,rfl,rfl,Bn.out,ig.out,ee.out⟩
     case round =>
      obtain ⟨kk,k2,dk,nJ,I4,rN,gO,rfl,rfl,HI⟩:=hrel
      rename World=>w6
      clear Bn ig ee iC A0 A1;have HD:Hid (dk.size=n):=HI.out.2.1.size.trans HN.out;by_cases hlt2:k2 < n - k
      ·obtain ⟨j2,Fq⟩:∃ j2,k2 - 1=j2:=⟨_,rfl⟩
       have ef:IntKind.i64.wrap ((k2:Int) - 1)=(j2:Int):=by rw [IntKind.wrap_i64];omega
       have Fw:j2 < n - k:=by omega
       have A0:=hide (HI.out.1.at (k+k2) (by rw [HD.out];omega));have A1:=hide (HI.out.1.at (k+j2) (by rw [HD.out];omega));have FB:=HI.out.2.1.lt;obtain ⟨u,Hu⟩:∃ u,Hid (d[k+k2]! = u):=⟨_,rfl⟩;obtain ⟨v,Hv⟩:∃ v,Hid (d[k+j2]! = v):=⟨_,rfl⟩;rw [HI.out.2.1.high (k+k2) (by omega),Hu.out,Nat.add_mul,<- qt] at A0;rw [HI.out.2.1.high (k+j2) (by omega),Hv.out,Nat.add_mul,<- qt] at A1
       have BH:Hid (k+k2 - 1=k+j2):=by show _=_;omega
       clear Fq;have l0:∀ d os,(ldD (.pointer (some ((ad.add (k * 2)).add (k2 * 2))))).run Tryz.prog (Sort.grow (redrawn w6 d) os) = .ok (RV u) (Sort.grow (redrawn w6 d) os):=fun d os=>qw (A0.out.on (below_regrown w6 d os));have l1:∀ d os,(ldD (.pointer (some ((ad.add (k * 2)).add (j2 * 2))))).run Tryz.prog (Sort.grow (redrawn w6 d) os) = .ok (RV v) (Sort.grow (redrawn w6 d) os):=fun d os=>qw (A1.out.on (below_regrown w6 d os));obtain ⟨q2,nE⟩:∃ q2,eqD u v=q2:=⟨_,rfl⟩
       cases q2 with
       | true =>
        have iV:Hid (CompInv d (k+k2+1) kk dk):=HI.out.2.1.skip (keeps_neg (by omega) (by rw [BH.out,Hu.out,Hv.out];exact (yY u v).1 nE));go_wp2_with fail;refine wp_region_quiet_below (by kernel_rfl) (by kernel_rfl) ?_
        repeat (with_reducible (refine wpQuiet_step ?_);intro K hK;go_simp;(try rw [if_neg (by unfold undef;simp)]);first | (with_reducible (refine hK _ ?_);clear hK K) | (apply Exists.intro;refine ⟨fun _=>?_,hK _ ?_⟩;(fail);clear hK K))
        with_reducible (refine wpQuiet_nil ?_)
        intro w7 hw';obtain ⟨⟨dq,osq⟩,hw''⟩:=hw'
        have b7:Below w6.heap.size w6 w7:=by rw [hw''];exact below_regrown w6 dq osq
        clear hw'' dq osq;have H7:Hid (MR w7 ad dk/\CompInv d (k+(k2+1)) kk dk/\Kd w w7 ad.block):=⟨HI.out.1.on b7,iV.out,HI.out.2.2.trans (Kd.of_below b7)⟩;clear b7 l0 l1;go_wp2_with fail;go_roundg (n - (k+(k2+1)))
        case measure=>omega
        case rel=>exact ⟨kk,k2+1,dk,by omega,by omega,rN,Nat.le_refl _,rfl,by go_num,H7⟩
       | false =>
        have iV:Hid (CompInv d (k+k2+1) (kk+1) (dk.setIfInBounds kk u)):=by
         have:=HI.out.2.1.keep (by rw [HN.out];omega) (keeps_pos (by rw [BH.out,Hu.out,Hv.out];intro h;rw [(yY u v).2 h] at nE;cases nE));rwa [Hu.out] at this
        go_wp2_with fail;refine wp_region_quiet_below (by kernel_rfl) (by kernel_rfl) ?_
        repeat (with_reducible (refine wpQuiet_step ?_);intro K hK;go_simp;(try rw [if_neg (by unfold undef;simp)]);first | (with_reducible (refine hK _ ?_);clear hK K) | (apply Exists.intro;refine ⟨fun _=>?_,hK _ ?_⟩;(fail);clear hK K))
        with_reducible (refine wpQuiet_nil ?_)
        intro w7 hw';obtain ⟨⟨dq,osq⟩,hw''⟩:=hw'
        have b7:Below w6.heap.size w6 w7:=by rw [hw''];exact below_regrown w6 dq osq
        clear hw'' dq osq;have l7:=qw (A0.out.on b7);obtain ⟨w8,cr,M8,B8,_⟩:=(HI.out.1.on b7).store kk u (by rw [HD.out];exact rN);have H8:Hid (MR w8 ad (dk.setIfInBounds kk u)/\CompInv d (k+(k2+1)) (kk+1) (dk.setIfInBounds kk u)/\Kd w w8 ad.block):=⟨M8,iV.out,(HI.out.2.2.trans (Kd.of_below b7)).trans B8⟩;clear b7 l0 l1 M8 B8;go_wp2_with fail;go_roundg (n - (k+(k2+1)))
        case measure=>omega
        case rel=>exact ⟨kk+1,k2+1,dk.setIfInBounds kk u,by omega,by omega,by omega,Nat.le_refl _,by go_num,by go_num,H8⟩
      ·have tK:k+k2=n:=by omega
       obtain ⟨w7,d',fD,M7,rS,BM,B7,_⟩:=HI.out.1.clear kk (by rw [HD.out];exact rN) (cap - kk);rw [HD.out] at fD;have G0:(clD (.slice (some (ad.add (kk * 2))) (n - kk) (cap - kk))).run Tryz.prog w6 = .ok (.tuple #[]) w7:=fD 0
       have HF:Hid (dy w w7 (.returned (.slice (some ad) kk cap)) ad cap d):=by
        have hI:=HI.out.2.1;rw [tK] at hI;exact ⟨kk,d',rfl,M7,by rw [HN.out];omega,rS.trans hI.size,y5 hI HN.out rS BM,HI.out.2.2.trans B7⟩
       clear fD M7 rS BM B7;go_wp2_with fail;go_ret;exact HF.out
   ·have HF:Hid (dy w w4 (.returned (.slice (some ad) n cap)) ad cap d):=xM HN.out iC.out (Kd.of_below H.out.1) (fun j hj=>H.out.2 j (by have:=HN.out;omega));go_wp2_with fail;go_ret;exact HF.out
end
end Go.Proofs.YtcilfelgpmfehaaGreat
