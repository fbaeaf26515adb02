/- TUb -/
import Derived.Test.YtjeilkenjdnafaaGreatDk21
import Derived.Test.YtjeilkenjdnafaaGreatDk12
import Derived.Deep.CutRange
namespace Go.Proofs.YtjeilkenjdnafaaGreat
open Go.RowKit Go.Maps Go.Sort
def sl1 (v:Value):Sem Value:=Instr.slice 27 v (some (.int .i64 1)) none none
theorem sl1_eq (v:Value):Instr.slice 27 v (some (.int .i64 1)) none none=sl1 v:=rfl
def tl1 (b o c:Nat):Option Addr:=if c=1 then some ⟨b,o,none⟩ else some ⟨b,o+3,none⟩
attribute [local go_sem ↓] ldP_eq stP_eq ldRe_eq stRe_eq sl1_eq
attribute [local go_sem] cells_ReV ReC_size zero_ReC
def sln:Value -> Nat
 | .slice _ n _=>n
 | _=>0
structure RcT (w:World) (ao:Option Addr) (n cap:Nat) (L:List Rc):Prop where
 src:RcS w ao n cap L
 room:n <= cap
 nil:ao=none -> cap=0
theorem RcT.below {w w':World} {ao:Option Addr} {n cap:Nat} {L:List Rc} (h:RcT w ao n cap L) (hb:Below w.heap.size w w'):RcT w' ao n cap L:=⟨h.src.below hb,h.room,h.nil⟩
theorem RcT.tail {w:World} {b o n cap:Nat} {x:Rc} {L:List Rc} (h:RcT w (some ⟨b,o,none⟩) n cap (x :: L)):RcT w (tl1 b o cap) (n - 1) (cap - 1) L:=by
 have hl:=h.src.len;rw [List.length_cons] at hl;have hc:=h.room;have hb:=h.src.big;unfold tl1;by_cases e:cap=1
 ·rw [if_pos e]
  have h0:L.length=0:=by omega
  obtain rfl:=List.eq_nil_of_length_eq_zero h0;exact ⟨⟨by simp;omega,fun h=>(by cases h),fun ad _ t ht=>(by omega),fun r hr=>(by cases hr),by omega⟩,by omega,fun h=>(by cases h)⟩
 ·rw [if_neg e];refine ⟨⟨by omega,fun h=>(by cases h),fun ad he t ht=>?_,fun r hr=>h.src.ok r (List.mem_cons_of_mem _ hr),by omega⟩,by omega,fun h=>(by cases h)⟩;obtain rfl:=Option.some.inj he;have A:=h.src.at_ _ rfl (t+1) (by omega);rw [Addr.add_lit] at A ⊢;rw [show o+3+t * 3=o+(t+1) * 3 by omega];simpa [List.getD] using A
structure UI (w0 wr:World) (L M:List Rc) (N:Nat) (ao:Option Addr) (n ca:Nat) (X:List Rc) (bo:Option Addr) (m cb:Nat) (Y:List Rc) (h:Hs) (D:List Rc):Prop where
 xa:RcT w0 ao n ca X
 yb:RcT w0 bo m cb Y
 own:OwnRc w0.heap.size w0 wr h D
 fr:∀ r∈D,PNew w0.heap.size r.p
 okx:∀ r∈X,RecOk r
 oky:∀ r∈Y,RecOk r
 okd:∀ r∈D,RecOk r
 mg:Mg ck (plR L) (plR M) (plR D) (plR X) (plR Y)
 num:h.n+n+m <= N
theorem plR_sn (L:List Rc) (x:Rc):plR (L++[x])=plR L++[rck x]:=by simp [plR,rck]
theorem copy_rck {r c:Rc} (h:RecOk r) (hs:c.s=r.s) (hC:CanonOf (runsAt r.p.P) c.p.P):rck c=rck r:=by
 have e:=(canon_self hC).2 h.2.1;unfold rck;rw [hs,e]
theorem mem_snoc {α : Type} {L:List α} {x : α} {P : α -> Prop} (h:∀ r∈L,P r) (hx:P x):∀ r∈L++[x],P r:=fun r hr=>by
 rcases List.mem_append.1 hr with q | q
 ·exact h r q
 ·obtain rfl:=List.mem_singleton.1 q;exact hx
theorem UI.left {w0 wr wr2:World} {L M:List Rc} {N b o n ca m cb:Nat} {x:Rc} {X:List Rc} {bo:Option Addr} {Y:List Rc} {h h2:Hs} {D:List Rc} {c:Rc} (U:UI w0 wr L M N (some ⟨b,o,none⟩) n ca (x :: X) bo m cb Y h D) (hY:∀ y∈plR Y,ck (rck x) y < 0)
  (hs:c.s=x.s) (hC:CanonOf (runsAt x.p.P) c.p.P) (hP:PNew w0.heap.size c.p) (O:OwnRc w0.heap.size w0 wr2 h2 (D++[c])) (hn:h2.n=h.n+1):UI w0 wr2 L M N (tl1 b o ca) (n - 1) (ca - 1) X bo m cb Y h2 (D++[c]):=by
 have hx:=U.okx x List.mem_cons_self;have e:=copy_rck hx hs hC;have hl:=U.xa.src.len;rw [List.length_cons] at hl;have:=U.num;refine ⟨U.xa.tail,U.yb,O,mem_snoc U.fr hP,fun r hr=>U.okx r (List.mem_cons_of_mem _ hr),U.oky,mem_snoc U.okd (recOk_rck hx e),?_,by omega⟩;rw [plR_sn,e];exact U.mg.left hY
theorem UI.symm {w0 wr:World} {L M:List Rc} {N n ca m cb:Nat} {ao bo:Option Addr} {X Y:List Rc} {h:Hs} {D:List Rc} (U:UI w0 wr L M N ao n ca X bo m cb Y h D):UI w0 wr L M N bo m cb Y ao n ca X h D:=
 ⟨U.yb,U.xa,U.own,U.fr,U.oky,U.okx,U.okd,U.mg.symm,by have:=U.num;omega⟩
theorem UI.drop {w0 wr wr2:World} {L M:List Rc} {N b o n ca m cb:Nat} {x:Rc} {X:List Rc} {bo:Option Addr} {Y:List Rc} {h:Hs} {D:List Rc} (U:UI w0 wr L M N (some ⟨b,o,none⟩) n ca (x :: X) bo m cb Y h D) (hY:rck x∈plR Y) (hb:Below wr.heap.size wr wr2):UI w0 wr2 L M N (tl1 b o ca) (n - 1) (ca - 1) X bo m cb Y h D:=
 ⟨U.xa.tail,U.yb,U.own.later hb,U.fr,fun r hr=>U.okx r (List.mem_cons_of_mem _ hr),U.oky,U.okd,U.mg.drop hY,by have:=U.num;omega⟩
theorem UI.later {w0 wr wr2:World} {L M:List Rc} {N n ca m cb:Nat} {ao bo:Option Addr} {X Y:List Rc} {h:Hs} {D:List Rc} (U:UI w0 wr L M N ao n ca X bo m cb Y h D) (hb:Below wr.heap.size wr wr2):UI w0 wr2 L M N ao n ca X bo m cb Y h D:=
 ⟨U.xa,U.yb,U.own.later hb,U.fr,U.okx,U.oky,U.okd,U.mg,U.num⟩
def UIv (w0:World) (L M:List Rc) (N:Nat) (a b v:Value) (wr:World):Prop:=∃ (ao:Option Addr) (n ca:Nat) (X:List Rc) (bo:Option Addr) (m cb:Nat) (Y:List Rc) (h:Hs) (D:List Rc),a = .slice ao n ca/\b = .slice bo m cb/\v = .slice h.o h.n h.c/\Hid (UI w0 wr L M N ao n ca X bo m cb Y h D)
theorem UIv.of {w0 wr:World} {L M:List Rc} {N n ca m cb:Nat} {ao bo:Option Addr} {X Y:List Rc} {h:Hs} {D:List Rc} (U:UI w0 wr L M N ao n ca X bo m cb Y h D):UIv w0 L M N (.slice ao n ca) (.slice bo m cb) (.slice h.o h.n h.c) wr:=⟨ao,n,ca,X,bo,m,cb,Y,h,D,rfl,rfl,rfl,U⟩
structure GvR (w w':World) (h:Hs) (F:List Rc):Prop where
 src:RcS w' h.o h.n h.c F
 room:h.n <= h.c
 nil:h.o=none -> h.c=0
 new:∀ ad,h.o=some ad -> w.heap.size <= ad.block
 fresh:∀ r∈F,PNew w.heap.size r.p
 below:Below w.heap.size w w'
theorem ownRc_row {B:Nat} {w W:World} {h:Hs} {L:List Rc} (O:OwnRc B w W h L) (hn:h.n <= 2199023255552):RcT W h.o h.n h.c L/\(∀ ad,h.o=some ad -> B <= ad.block)/\Below w.heap.size w W:=by
 refine ⟨⟨O.src hn,?_,?_⟩,?_,O.below⟩
 all_goals
  have hr:=O.own;obtain ⟨ao,n,c⟩:=h;rcases hr.2 with ⟨h0,h00⟩ | ⟨g,cap,cur,hv,hbg,hgg,hnc,hcm,hcsz,htake⟩
  ·simp only [HsV,Value.slice.injEq] at h0;obtain ⟨rfl,rfl,rfl⟩:=h0;simp
  ·simp only [HsV,Value.slice.injEq] at hv;obtain ⟨rfl,-,rfl⟩:=hv
   first
    | exact hnc
    | exact fun ad e=>(by cases e;exact hbg)
    | exact fun e=>(by cases e)
theorem OwnRc.give {w w0 W:World} {h:Hs} {L:List Rc} (O:OwnRc w0.heap.size w0 W h L) (hb:Below w.heap.size w w0) (hf:∀ r∈L,PNew w0.heap.size r.p) (hn:h.n <= 2199023255552):GvR w W h L:=by
 have hsz:=hb.size;obtain ⟨⟨q1,q2,q3⟩,q4,q5⟩:=ownRc_row O hn;exact ⟨q1,q2,q3,fun ad e=>Nat.le_trans hsz (q4 ad e),fun r hr=>⟨fun ad e=>Nat.le_trans hsz ((hf r hr).1 ad e),fun ad e=>Nat.le_trans hsz ((hf r hr).2 ad e)⟩,hb.trans (q5.mono hsz)⟩
def UnA (w w':World) (x:Ending) (L:List Rc) (n:Nat) (M:List Rc) (m:Nat):Prop:=(OkR L n/\OkR M m/\∃ (h:Hs) (F:List Rc),x = .returned (.tuple #[HsV h,.int .i64 0])/\GvR w w' h F/\h.n <= n+m/\UnOf L M F)∨(¬ (OkR L n/\OkR M m)/\x = .returned (.tuple #[.slice none 0 0,.int .i64 1])/\Below w.heap.size w w')
end Go.Proofs.YtjeilkenjdnafaaGreat
