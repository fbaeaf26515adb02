/- BSo TUb -/
import Derived.Test.YtjffpimfngdggaaGreatTk
import Derived.Test.YtjffpimfngdggaaGreatFe22
import Derived.Test.YtjffpimfngdggaaGreatFe09
import Derived.Deep.CutRange
import Derived.Test.YtjffpimfngdggaaGreatFe12
set_option maxRecDepth 100000
set_option maxHeartbeats 6400000
namespace Go.Proofs.YtjffpimfngdggaaGreat
section
open Go.RowKit Go.Maps Go.Sort
attribute [local go_sem ↓] zq zp zZ zY zaG wO
attribute [local go_sem] zi zj zJ zQ qe
def CpA (w w':World) (x:Ending) (r:Rc):Prop:=∃ c:Rc,x = .returned (ReV (mkR c))/\c.s=r.s/\cS w' c/\du w.heap.size c.p/\Below w.heap.size w w'/\af (ae r.p.P) c.p.P
theorem j9 (r:Rc) (w:World) (hR:cS w r):Calls Tryz.prog 69 #[ReV (mkR r)] w fun x w'=>CpA w w' x r:=by
 have b1:=ze w (.cells (ReC (mkR r)) 78);have b2:=ze (w.alloc (.cells (ReC (mkR r)) 78)) (.cells (ReC re0) 78);have eo:=hide ((qs w (mkR r)).below b2);have X2:=qs (w.alloc (.cells (ReC (mkR r)) 78)) re0;rw [World.size_alloc] at X2;have fk:=hide X2;have aq:=hide (b1.trans (b2.mono b1.size));have HS:=hide (hR.1.below aq.out);have HZ:Hid (r.s.size <= maxLen):=hR.2;clear b1 b2 X2 hR;obtain ⟨wk,aY⟩:∃ wk,(w.alloc (.cells (ReC (mkR r)) 78)).alloc (.cells (ReC re0) 78)=wk:=⟨_,rfl⟩;obtain ⟨G,HG⟩:∃ G,Hid (w.heap.size=G):=⟨_,rfl⟩;have hG:=HG.out;rw [aY] at eo fk aq HS;rw [hG] at eo fk
 have aG:Hid (∀ W:World,W.heap[G]? = wk.heap[G]? -> W.cell? ⟨G,0,none⟩=some (.string r.s)/\(ldP (.pointer (some ⟨G,1,none⟩))).run Tryz.prog W = .ok (.agg #[.slice r.p.vo r.p.vn r.p.vc,.slice r.p.co r.p.cn r.p.cc]) W):=fun W h=>by
  have X:cf W G (mkR r):=h.trans eo.out;exact ⟨X.sk,zl X.past⟩
 go_enter Tryz.func69,Tryz.ntmps69;go_upto_region 1 with fail;clear aY;refine wp_region_held_drew (S:=fun W=>W.cell? ⟨G,0,none⟩=some (.string r.s)/\(ldP (.pointer (some ⟨G,1,none⟩))).run Tryz.prog W = .ok (.agg #[.slice r.p.vo r.p.vn r.p.vc,.slice r.p.co r.p.cn r.p.cc]) W) (by kernel_rfl) (aG.out _ rfl) (fun hHeld=>?_);refine wU 0 ?_;refine wU 1 ?_;refine wU 2 ?_;refine wU 3 ?_;refine wpAnyH_ready (rs:=[4]) (by kernel_rfl) (by simp) (.cons rfl (fun K hK=>?_) .nil);go_simp;go_wp2_with fail;refine (jN r.p _ (HS.out.below (zg wk))).mono ?_;rintro x w3 ⟨c,rfl,Sc,Nc,b3,Cc⟩;have b03:Below wk.heap.size wk w3:=(zg wk).trans b3;have z3:w3.heap[G]? = wk.heap[G]?:=b03.block G eo.out.lt;refine hK.out _ _ (aG.out _ z3) (fun hHeld=>?_);clear hK K;have X3:cf w3 (G+1) re0:=fk.out.below b03;have t3:=zcu (m':=mkR ⟨r.s,c⟩) X3
 have X4:cf (w3.setRow (G+1) (ReC (mkR ⟨r.s,c⟩))) (G+1) (mkR ⟨r.s,c⟩):=setRow_heap _ _ _ _ _ _ X3;have z4:(w3.setRow (G+1) (ReC (mkR ⟨r.s,c⟩))).heap[G]? = wk.heap[G]?:=(setRow_other _ _ _ _ (by omega)).trans z3;have ak:G+1 < wk.heap.size:=fk.out.lt;have S4:am (w3.setRow (G+1) (ReC (mkR ⟨r.s,c⟩))) c:=xR (g:=some (G+1)) Sc (fun k e=>by obtain rfl:=Option.some.inj e;exact dA.new Nc ak) (fun q _ hq=>setRow_other _ _ _ _ (fun e=>hq (by rw [e])));have HE:Hid (CpA w (w3.setRow (G+1) (ReC (mkR ⟨r.s,c⟩))) (.returned (ReV (mkR ⟨r.s,c⟩))) r):=⟨⟨r.s,c⟩,rfl,rfl,⟨S4,HZ.out⟩,Nc.mono (by have:=aq.out.size;exact this),zh (aq.out.trans (b03.mono aq.out.size)) (by omega),Cc⟩;have iv:=hide X4;clear Sc Nc b3 b03 Cc X3 X4 S4 ak;refine wU 5 ?_;refine wpAnyH_ready (rs:=[6]) (by kernel_rfl) (by simp) (.cons rfl (fun K hK=>?_) .nil)
 go_simp;refine hK.out _ _ (aG.out _ z4) (fun hHeld=>?_);clear hK K;refine wpAnyH_done (by kernel_rfl) ?_ _;clear hHeld;clear t3 z3 z4;go_wp2_with fail;refine bodyPost_ret (By rfl rfl iv.out) rfl ?_;exact HE.out
def SoA (w w':World) (x:Ending) (r:Rc):Prop:=∃ (h:Hs) (c:Rc),x = .returned (.tuple #[HsV h,.int .i64 0])/\RcS w' h.o 1 h.c [c]/\h.n=1/\c.s=r.s/\Below w.heap.size w w'/\af (ae r.p.P) c.p.P
def SoI (w W:World) (k:Nat) (x:Hs) (r:Rc):Prop:=∃ C,aO w.heap.size w W x C/\((k=0/\C=[]/\x.n=0)∨(1 <= k/\x.n=1/\∃ c,C=[c]/\c.s=r.s/\af (ae r.p.P) c.p.P))
end
section
open Go.RowKit Go.Maps Go.Sort
def sl1 (v:Value):Sem Value:=Instr.slice 27 v (some (.int .i64 1)) none none
theorem ziP (v:Value):Instr.slice 27 v (some (.int .i64 1)) none none=sl1 v:=rfl
def tl1 (b o c:Nat):Option Addr:=if c=1 then some ⟨b,o,none⟩ else some ⟨b,o+3,none⟩
theorem zbI (b o n c:Nat) (hn:1 <= n) (hc:n <= c) (w:World):(sl1 (.slice (some ⟨b,o,none⟩) n c)).run Tryz.prog w = .ok (.slice (tl1 b o c) (n - 1) (c - 1)) w:=by
 obtain ⟨i0,hi,dg,dn,ee⟩:=info_parts gT;unfold sl1 tl1
 have e1:(0:Int) <= 1/\(1:Int) <= (n:Int):=by omega
 by_cases h:c=1
 ·subst h;simp [Instr.slice,Instr.sliceBounds,Instr.sliceBound,asIntOf,run_underlying Tryz.underlying27,sizeOf,typeInfo,hi,e1.2]
 ·simp [Instr.slice,Instr.sliceBounds,Instr.sliceBound,asIntOf,run_underlying Tryz.underlying27,sizeOf,typeInfo,hi,dn,e1.2,h,Addr.add]
attribute [local go_sem ↓] zq zp zZ zY ziP
attribute [local go_sem] zJ zQ qe
def sln:Value -> Nat
 | .slice _ n _=>n
 | _=>0
structure RcT (w:World) (ao:Option Addr) (n cap:Nat) (L:List Rc):Prop where
 src:RcS w ao n cap L
 room:n <= cap
 nil:ao=none -> cap=0
theorem RcT.below {w w':World} {ao:Option Addr} {n cap:Nat} {L:List Rc} (h:RcT w ao n cap L) (hb:Below w.heap.size w w'):RcT w' ao n cap L:=⟨h.src.below hb,h.room,h.nil⟩
theorem RcT.head {w:World} {ao:Option Addr} {n cap:Nat} {x:Rc} {L:List Rc} (h:RcT w ao n cap (x :: L)):∃ b o,ao=some ⟨b,o,none⟩/\iC w ⟨b,o,none⟩ (mkR x)/\1 <= n/\cS w x:=by
 have hl:=h.src.len;rw [List.length_cons] at hl
 cases ao with
 | none=>have:=h.src.nil rfl;omega
 | some ad =>
  obtain ⟨b,o,rfl⟩:=h.src.spot (by omega);have A:=h.src.at_ _ rfl 0 (by omega);rw [Addr.add_lit] at A;exact ⟨b,o,rfl,by simpa using A,by omega,h.src.ok x List.mem_cons_self⟩
theorem RcT.tail {w:World} {b o n cap:Nat} {x:Rc} {L:List Rc} (h:RcT w (some ⟨b,o,none⟩) n cap (x :: L)):RcT w (tl1 b o cap) (n - 1) (cap - 1) L:=by
 have hl:=h.src.len;rw [List.length_cons] at hl;have hc:=h.room;have hb:=h.src.big;unfold tl1;by_cases e:cap=1
 ·rw [if_pos e]
  have h0:L.length=0:=by omega
  obtain rfl:=List.eq_nil_of_length_eq_zero h0;exact ⟨⟨by simp;omega,fun h=>(by cases h),fun ad _ t ht=>(by omega),fun r hr=>(by cases hr),by omega⟩,by omega,fun h=>(by cases h)⟩
 ·rw [if_neg e];refine ⟨⟨by omega,fun h=>(by cases h),fun ad he t ht=>?_,fun r hr=>h.src.ok r (List.mem_cons_of_mem _ hr),by omega⟩,by omega,fun h=>(by cases h)⟩;obtain rfl:=Option.some.inj he;have A:=h.src.at_ _ rfl (t+1) (by omega);rw [Addr.add_lit] at A ⊢;rw [show o+3+t * 3=o+(t+1) * 3 by omega];simpa [List.getD] using A
structure UI (w0 wr:World) (L M:List Rc) (N:Nat) (ao:Option Addr) (n ca:Nat) (X:List Rc) (bo:Option Addr) (m cb:Nat) (Y:List Rc) (h:Hs) (D:List Rc):Prop where
 xa:RcT w0 ao n ca X
 yb:RcT w0 bo m cb Y
 own:aO w0.heap.size w0 wr h D
 fr:∀ r∈D,du w0.heap.size r.p
 okx:∀ r∈X,cj r
 oky:∀ r∈Y,cj r
 okd:∀ r∈D,cj r
 mg:Mg ck (plR L) (plR M) (plR D) (plR X) (plR Y)
 num:h.n+n+m <= N
theorem zf8 (x:Rc) (L:List Rc):plR (x :: L)=rck x :: plR L:=rfl
theorem wW (L:List Rc) (x:Rc):plR (L++[x])=plR L++[rck x]:=by simp [plR,rck]
theorem wn {r c:Rc} (h:cj r) (hs:c.s=r.s) (hC:af (ae r.p.P) c.p.P):rck c=rck r:=by
 have e:=(y8 hC).2 h.2.1;unfold rck;rw [hs,e]
theorem jc {α : Type} {L:List α} {x : α} {P : α -> Prop} (h:∀ r∈L,P r) (hx:P x):∀ r∈L++[x],P r:=fun r hr=>by
 rcases List.mem_append.1 hr with q | q
 ·exact h r q
 ·obtain rfl:=List.mem_singleton.1 q;exact hx
theorem UI.left {w0 wr wr2:World} {L M:List Rc} {N b o n ca m cb:Nat} {x:Rc} {X:List Rc} {bo:Option Addr} {Y:List Rc} {h h2:Hs} {D:List Rc} {c:Rc} (U:UI w0 wr L M N (some ⟨b,o,none⟩) n ca (x :: X) bo m cb Y h D) (hY:∀ y∈plR Y,ck (rck x) y < 0)
  (hs:c.s=x.s) (hC:af (ae x.p.P) c.p.P) (hP:du w0.heap.size c.p) (O:aO w0.heap.size w0 wr2 h2 (D++[c])) (hn:h2.n=h.n+1):UI w0 wr2 L M N (tl1 b o ca) (n - 1) (ca - 1) X bo m cb Y h2 (D++[c]):=by
 have hx:=U.okx x List.mem_cons_self;have e:=wn hx hs hC;have hl:=U.xa.src.len;rw [List.length_cons] at hl;have:=U.num;refine ⟨U.xa.tail,U.yb,O,jc U.fr hP,fun r hr=>U.okx r (List.mem_cons_of_mem _ hr),U.oky,jc U.okd (kH hx e),?_,by omega⟩;rw [wW,e];exact U.mg.left hY
theorem UI.symm {w0 wr:World} {L M:List Rc} {N n ca m cb:Nat} {ao bo:Option Addr} {X Y:List Rc} {h:Hs} {D:List Rc} (U:UI w0 wr L M N ao n ca X bo m cb Y h D):UI w0 wr L M N bo m cb Y ao n ca X h D:=
 ⟨U.yb,U.xa,U.own,U.fr,U.oky,U.okx,U.okd,U.mg.symm,by have:=U.num;omega⟩
theorem UI.drop {w0 wr wr2:World} {L M:List Rc} {N b o n ca m cb:Nat} {x:Rc} {X:List Rc} {bo:Option Addr} {Y:List Rc} {h:Hs} {D:List Rc} (U:UI w0 wr L M N (some ⟨b,o,none⟩) n ca (x :: X) bo m cb Y h D) (hY:rck x∈plR Y) (hb:Below wr.heap.size wr wr2):UI w0 wr2 L M N (tl1 b o ca) (n - 1) (ca - 1) X bo m cb Y h D:=
 ⟨U.xa.tail,U.yb,U.own.later hb,U.fr,fun r hr=>U.okx r (List.mem_cons_of_mem _ hr),U.oky,U.okd,U.mg.drop hY,by have:=U.num;omega⟩
theorem UI.later {w0 wr wr2:World} {L M:List Rc} {N n ca m cb:Nat} {ao bo:Option Addr} {X Y:List Rc} {h:Hs} {D:List Rc} (U:UI w0 wr L M N ao n ca X bo m cb Y h D) (hb:Below wr.heap.size wr wr2):UI w0 wr2 L M N ao n ca X bo m cb Y h D:=
 ⟨U.xa,U.yb,U.own.later hb,U.fr,U.okx,U.oky,U.okd,U.mg,U.num⟩
def UIv (w0:World) (L M:List Rc) (N:Nat) (a b v:Value) (wr:World):Prop:=∃ (ao:Option Addr) (n ca:Nat) (X:List Rc) (bo:Option Addr) (m cb:Nat) (Y:List Rc) (h:Hs) (D:List Rc),a = .slice ao n ca/\b = .slice bo m cb/\v = .slice h.o h.n h.c/\Hid (UI w0 wr L M N ao n ca X bo m cb Y h D)
theorem UIv.of {w0 wr:World} {L M:List Rc} {N n ca m cb:Nat} {ao bo:Option Addr} {X Y:List Rc} {h:Hs} {D:List Rc} (U:UI w0 wr L M N ao n ca X bo m cb Y h D):UIv w0 L M N (.slice ao n ca) (.slice bo m cb) (.slice h.o h.n h.c) wr:=⟨ao,n,ca,X,bo,m,cb,Y,h,D,rfl,rfl,rfl,U⟩
structure GvR (w w':World) (h:Hs) (F:List Rc):Prop where
 src:RcS w' h.o h.n h.c F
 room:h.n <= h.c
 nil:h.o=none -> h.c=0
 new:∀ ad,h.o=some ad -> w.heap.size <= ad.block
 fresh:∀ r∈F,du w.heap.size r.p
 below:Below w.heap.size w w'
theorem GvR.row {w w':World} {h:Hs} {F:List Rc} (g:GvR w w' h F):RcT w' h.o h.n h.c F:=⟨g.src,g.room,g.nil⟩
theorem zeq {B:Nat} {w W:World} {h:Hs} {L:List Rc} (O:aO B w W h L) (hn:h.n <= 2199023255552):RcT W h.o h.n h.c L/\(∀ ad,h.o=some ad -> B <= ad.block)/\Below w.heap.size w W:=by
 refine ⟨⟨O.src hn,?_,?_⟩,?_,O.below⟩
 all_goals
  have hr:=O.own;obtain ⟨ao,n,c⟩:=h;rcases hr.2 with ⟨h0,fh⟩ | ⟨g,cap,cur,hv,dN,dy,hnc,eV,hcsz,htake⟩
  ·simp only [HsV,Value.slice.injEq] at h0;obtain ⟨rfl,rfl,rfl⟩:=h0;simp
  ·simp only [HsV,Value.slice.injEq] at hv;obtain ⟨rfl,-,rfl⟩:=hv
   first
    | exact hnc
    | exact fun ad e=>(by cases e;exact dN)
    | exact fun e=>(by cases e)
theorem aO.give {w w0 W:World} {h:Hs} {L:List Rc} (O:aO w0.heap.size w0 W h L) (hb:Below w.heap.size w w0) (hf:∀ r∈L,du w0.heap.size r.p) (hn:h.n <= 2199023255552):GvR w W h L:=by
 have dP:=hb.size;obtain ⟨⟨q1,q2,q3⟩,q4,q5⟩:=zeq O hn;exact ⟨q1,q2,q3,fun ad e=>Nat.le_trans dP (q4 ad e),fun r hr=>⟨fun ad e=>Nat.le_trans dP ((hf r hr).1 ad e),fun ad e=>Nat.le_trans dP ((hf r hr).2 ad e)⟩,hb.trans (q5.mono dP)⟩
def UnA (w w':World) (x:Ending) (L:List Rc) (n:Nat) (M:List Rc) (m:Nat):Prop:=(OkR L n/\OkR M m/\∃ (h:Hs) (F:List Rc),x = .returned (.tuple #[HsV h,.int .i64 0])/\GvR w w' h F/\h.n <= n+m/\iQ L M F)∨(¬ (OkR L n/\OkR M m)/\x = .returned (.tuple #[.slice none 0 0,.int .i64 1])/\Below w.heap.size w w')
theorem zah (ao bo:Option Addr) (n ca m cb:Nat) (L M:List Rc) (w:World) (hS:RcT w ao n ca L) (hR:RcT w bo m cb M) (mw:n+m <= 2199023255551) :
  Calls Tryz.prog 124 #[.slice ao n ca,.slice bo m cb] w fun x w'=>UnA w w' x L n M m:=by
 have HS:=hide hS;have HR:=hide hR;have uy:=hide mw;clear hS hR mw;go_enter Tryz.func124,Tryz.ntmps124;go_wp2_with fail;refine (xg ao n ca L _ HS.out.src).mono ?_;rintro x w1 ⟨z,rfl,hz,b1⟩;have aN:=hide b1;clear b1;rcases hz with ⟨rfl,hO⟩ | ⟨rfl,hO⟩;rotate_left
 ·have HE:Hid (UnA w w1 (.returned (.tuple #[.slice none 0 0,.int .i64 1])) L n M m):=.inr ⟨fun h=>hO h.1,rfl,aN.out⟩;clear hO;go_wp2_with fail;go_ret2;exact HE.out
 have HO:=hide hO;clear hO;go_wp2_with fail;refine (xg bo m cb M _ (HR.out.src.below aN.out)).mono ?_;rintro x w0 ⟨z,rfl,hz,b2⟩;have gI:=wTr aN b2;clear b2;rcases hz with ⟨rfl,hP⟩ | ⟨rfl,hP⟩;rotate_left
 ·have HE:Hid (UnA w w0 (.returned (.tuple #[.slice none 0 0,.int .i64 1])) L n M m):=.inr ⟨fun h=>hP h.2,rfl,gI.out⟩;clear hP;go_wp2_with fail;go_ret2;exact HE.out
 have m6:Hid (((∀ r∈L,cj r)/\Srt ck (plR L))/\(∀ r∈M,cj r)/\Srt ck (plR M)):=⟨xS.1 (by rw [HS.out.src.len];exact HO.out),xS.1 (by rw [HR.out.src.len];exact hP)⟩;have HP:=hide hP;have IA:Hid (UI w0 w0 L M (n+m) ao n ca L bo m cb M hs0 []):=⟨HS.out.below gI.out,HR.out.below gI.out,aO.nil w0,fun r hr=>(by cases hr),m6.out.1.1,m6.out.2.1,fun r hr=>(by cases hr),Mg.start m6.out.1.2 m6.out.2.2,by show 0+n+m <= _;omega⟩;clear hP aN;obtain ⟨N0,Ir⟩:∃ N0,n+m=N0:=⟨_,rfl⟩;rw [Ir] at IA uy;have E1:=hide Ir;clear Ir;go_wp2_with fail;go_loopw [0,1,6] (fun a b v wr=>UIv w0 L M N0 a b v wr) (fun a b _ _=>sln a+sln b)
 case atStart=>exact UIv.of IA.out
 case round =>
  obtain ⟨xo,xn,xc,X,yo,yn,yc,Y,h,D,rfl,rfl,rfl,HU⟩:=hrel
  rename World=>wr
  clear IA m6;have se:Hid (X.length=xn):=HU.out.xa.src.len;have Kg:Hid (Y.length=yn):=HU.out.yb.src.len;obtain ⟨bb,oj⟩:∃ bb:Bool,Hid (bb=(decide (0 < xn) && decide (0 < yn))):=⟨_,rfl⟩;go_upto_region 4 with fail
  go_cut [25] from 18 to 58 (fun s wx=>s = .bool bb/\wx=wr)
  case first =>
   by_cases h1:0 < xn
   ·have d1:decide (0 < xn)=true:=decide_eq_true h1
    have i1:(0:Int) < (xn:Int):=by omega
    by_cases h2:0 < yn
    ·have d2:decide (0 < yn)=true:=decide_eq_true h2
     have i2:(0:Int) < (yn:Int):=by omega
     obtain rfl:bb=true:=by rw [oj.out,d1,d2];rfl
     clear oj;go_wp2_with fail;go_meet
     case rel=>exact ⟨rfl,rfl⟩
    ·obtain rfl:yn=0:=by omega
     obtain rfl:bb=false:=by rw [oj.out];simp
     clear oj;go_wp2_with fail;go_meet
     case rel=>exact ⟨rfl,rfl⟩
   ·obtain rfl:xn=0:=by omega
    obtain rfl:bb=false:=by rw [oj.out];simp
    clear oj;go_wp2_with fail;go_meet
    case rel=>exact ⟨rfl,rfl⟩
  case rest =>
   obtain ⟨rfl,rfl⟩:=hcut
   rename World=>wr
   cases bb with
   | false =>
    have HZ:Hid (UnK ck (plR L) (plR M) (plR D++plR (X++Y))):=by
     have hb:=oj.out;by_cases h1:0 < xn
     ·have h2:¬ 0 < yn:=fun h2=>by rw [decide_eq_true h1,decide_eq_true h2] at hb;cases hb
      obtain rfl:Y=[]:=List.eq_nil_of_length_eq_zero (by have:=Kg.out;omega);rw [List.append_nil];exact HU.out.mg.doneL
     ·obtain rfl:X=[]:=List.eq_nil_of_length_eq_zero (by have:=se.out;omega);exact HU.out.mg.doneR
    clear oj;have sY:=hide HU.out.num;have sh:Hid (∀ r∈X++Y,cS w0 r):=fun r hr=>(List.mem_append.1 hr).elim (HU.out.xa.src.ok r) (HU.out.yb.src.ok r);have m4:Hid (RcT wr xo xn xc X/\RcT wr yo yn yc Y/\(∀ r∈X++Y,cj r)/\xn+yn <= 2199023255551):=⟨HU.out.xa.below HU.out.own.below,HU.out.yb.below HU.out.own.below,fun r hr=>(List.mem_append.1 hr).elim (HU.out.okx r) (HU.out.oky r),by have:=sY.out;have:=uy.out;omega⟩;obtain ⟨gc,KG⟩:∃ gc,wr.heap.size=gc:=⟨_,rfl⟩;obtain ⟨w5,pe⟩:∃ w5,wr.alloc (.cells #[.slice xo xn xc,.slice yo yn yc] 27)=w5:=⟨_,rfl⟩
    have b5:Below wr.heap.size wr w5:=by rw [<- pe];exact ze wr _
    have c5:w5.cell? ⟨gc,0,none⟩=some (.slice xo xn xc)/\w5.cell? ⟨gc,1,none⟩=some (.slice yo yn yc):=by rw [<- pe,<- KG];exact ⟨by simp,by simp⟩
    have po:=hide c5;have Gz:=hide (HU.out.later b5);have i7:=hide (m4.out.1.below b5);have GE:=hide (m4.out.2.1.below b5);clear b5 c5 HU;go_wp2_with fail;clear pe KG;refine (zbm gc xo yo xn xc yn yc X Y _ i7.out.src GE.out.src i7.out.nil GE.out.nil po.out.1 po.out.2 (by have:=m4.out.2.2.2;omega)).mono ?_;rintro e w6 ⟨k6,rfl,JR,O6⟩;have FC:Hid (RcS w6 k6.o k6.n k6.c (X++Y)):=O6.src (by have:=m4.out.2.2.2;omega);have GI:=hide (Gz.out.later O6.below)
    have A2:Hid ((∀ ad,k6.o=some ad -> w5.heap.size <= ad.block/\ad.block < w6.heap.size)/\w5.heap.size <= w6.heap.size/\∀ r∈X++Y,cS w0 r):=by
     refine ⟨fun ad e=>O6.own.lt ad.block (by show (Value.slice k6.o k6.n k6.c).ownBlock=_;rw [e];rfl),O6.below.size,sh.out⟩
    have CM:Hid (∀ q,(HsV h).ownBlock=some q -> q < w5.heap.size∨w6.heap.size <= q):=fun q hq=>.inl (Gz.out.own.own.lt q hq).2;have Kk:=hide JR;have IL:Hid ((X++Y).length=k6.n):=FC.out.len;clear O6 Gz i7 GE po JR;obtain ⟨Z,Mu⟩:∃ Z,Hid (X++Y=Z):=⟨_,rfl⟩;have J3:=hide m4.out.2.2.1;rw [Mu.out] at FC IL HZ J3 A2;obtain ⟨zo,zn,zc⟩:=k6;rw [show HsV ⟨zo,zn,zc⟩=Value.slice zo zn zc from rfl];have G0:Hid (RcS w6 zo zn zc Z):=FC.out;have Bc:Hid (Z.length=zn):=IL.out;have sD:Hid (zn=xn+yn):=Kk.out;have Dr:Hid ((∀ ad,zo=some ad -> w5.heap.size <= ad.block/\ad.block < w6.heap.size)/\w5.heap.size <= w6.heap.size/\∀ r∈Z,cS w0 r):=A2.out;clear FC IL Kk A2;go_wp2_with fail;have FN:Hid ((∀ ad,zo=some ad -> w5.heap.size <= ad.block/\ad.block < w6.heap.size)/\w5.heap.size <= w6.heap.size/\∀ r∈Z,cS w0 r):=Dr.out
    go_loopw [6,64] (fun v i wx=>∃ (k:Nat) (h2:Hs) (D2:List Rc),k <= zn/\v = .slice h2.o h2.n h2.c/\i = .int .i64 (k:Int)/\Hid (aO w0.heap.size w0 wx h2 D2/\(∀ ad,zo=some ad -> wx.heap[ad.block]? = w6.heap[ad.block]?)/\(∀ q,(HsV h2).ownBlock=some q -> q < w5.heap.size∨w6.heap.size <= q)/\w6.heap.size <= wx.heap.size/\(∀ r∈D2,du w0.heap.size r.p)/\(∀ r∈D2,cj r)/\plR D2=plR D++plR (Z.take k)/\h2.n=h.n+k)) (fun _ i _=>zn - (intOf i).toNat)
    case atStart=>exact ⟨0,h,D,Nat.zero_le _,rfl,rfl,GI.out.own,fun _ _=>rfl,CM.out,Nat.le_refl _,GI.out.fr,GI.out.okd,by simp [plR],rfl⟩
    case round =>
     obtain ⟨k,h2,D2,hk,rfl,rfl,HI⟩:=hrel
     rename World=>wx
     have FM:=hide (zhr G0.out HI.out.2.1 (fun r hr=>(FN.out.2.2 r hr).below HI.out.1.below));by_cases ak:k < zn
     ·have cL:(k:Int) < (zn:Int):=by omega
      have Cr:zn <= 2199023255551:=by have:=sD.out;have:=m4.out.2.2.2;omega
      obtain ⟨ad,eO,A0⟩:=FM.out.at k ak;have lA:=FM.out.okAt k ak;have HT:Hid (plR (Z.take (k+1))=plR (Z.take k)++[rck (Z.getD k rc0)]/\cj (Z.getD k rc0)):=⟨kJ Z k (by rw [Bc.out];exact ak),J3.out _ (jh (by rw [Bc.out];exact ak))⟩;obtain ⟨q,Hq⟩:∃ q,Hid (Z.getD k rc0=q):=⟨_,rfl⟩;rw [Hq.out] at A0 lA HT;have CR:=hide eO;subst eO;have dK:=zM A0;obtain ⟨g7,fZ⟩:∃ g7,wx.heap.size=g7:=⟨_,rfl⟩;obtain ⟨w7,a8,X7,B7,S7⟩:=fE wx (mkR q) g7 fZ;have fI:=hide (HI.out.1.later B7);have dH:=hide B7;have sE:=hide X7;have Ba:=hide (lA.below B7);have l7:=qI X7;have cw:=hide ak;clear A0 X7 B7 S7 lA ak hk;go_wp2_with fail;clear a8 dK fZ l7;refine (j9 q _ Ba.out).mono ?_;rintro e wa ⟨c,rfl,gM,Rc1,Nc,ba,Cc⟩;have Oa:=fI.out.later ba;have fN:eC h2 c.p:=fun j hj=>dA.new Nc (fI.out.own.lt j hj).2
      obtain ⟨gb,cb2,wb,dS,Ob,oU,p8,ti⟩:=Oa.appAt c Rc1 fN (by have:=HI.out.2.2.2.2.2.2.2;have:=sY.out;have:=uy.out;have:=sD.out;have:=cw.out;omega);have oR:Hid ((Builtin.append_ #[27,27] 27 #[.slice h2.o h2.n h2.c,.slice (some ⟨wa.heap.size,0,none⟩) 1 1]).run Tryz.prog (wa.alloc (.cells #[.string c.s,.slice c.p.vo c.p.vn c.p.vc,.slice c.p.co c.p.cn c.p.cc] 78)) = .ok (.slice (some ⟨gb,0,none⟩) (h2.n+1) cb2) wb):=dS
      have HN:Hid (aO w0.heap.size w0 wb ⟨some ⟨gb,0,none⟩,h2.n+1,cb2⟩ (D2++[c])/\(∀ ad2,some ad=some ad2 -> wb.heap[ad2.block]? = w6.heap[ad2.block]?)/\(∀ q,(HsV ⟨some ⟨gb,0,none⟩,h2.n+1,cb2⟩).ownBlock=some q -> q < w5.heap.size∨w6.heap.size <= q)/\w6.heap.size <= wb.heap.size/\(∀ r∈D2++[c],du w0.heap.size r.p)/\(∀ r∈D2++[c],cj r)/\plR (D2++[c])=plR D++plR (Z.take (k+1))/\h2.n+1=h.n+(k+1)):=by
       have e:=wn HT.out.2 gM Cc;have s7:=dH.out.size;have sa:=ba.size;have s6:=HI.out.2.2.2.1;refine ⟨Ob,fun ad2 e2=>?_,fun q2 oZ=>?_,?_,jc HI.out.2.2.2.2.1 (Nc.mono (by have:=fI.out.below.size;exact this)),jc HI.out.2.2.2.2.2.1 (kH HT.out.2 e),?_,by have:=HI.out.2.2.2.2.2.2.2;omega⟩
       ·obtain rfl:=Option.some.inj e2;have NP:=FN.out.1 ad rfl;rw [oU ad.block (by omega) (fun e3=>by have:=HI.out.2.2.1 _ e3;omega),ba.block ad.block (by omega),dH.out.block ad.block (by omega)];exact HI.out.2.1 ad rfl
       ·have e4:gb=q2:=Option.some.inj oZ;subst e4;rcases p8 with p8 | p8
        ·exact HI.out.2.2.1 _ p8
        ·exact .inr (by omega)
       ·have hh:wa.heap.size <= wb.heap.size:=ti;omega
       ·rw [wW,e,HI.out.2.2.2.2.2.2.1,HT.out.1,List.append_assoc]
      clear dS Ob Oa fN gM Rc1 Nc ba Cc oU p8 ti FM;go_wp2_with (at_builtin;refine x7 rfl (.tmp 68) (.tmp 71) rfl rfl rfl oR.out ?_);go_roundw
      case rel=>exact ⟨k+1,⟨some ⟨gb,0,none⟩,h2.n+1,cb2⟩,D2++[c],cw.out,rfl,by simp,HN.out⟩
      case measure=>simp [intOf];have:=cw.out;omega
     ·obtain rfl:k=zn:=by omega
      have cL:¬ (k:Int) < (k:Int):=by omega
      have HE:Hid (UnA w wx (.returned (.tuple #[.slice h2.o h2.n h2.c,.int .i64 0])) L n M m):=by
       obtain ⟨q1,q2,q3,q3b,q3c,q4,q5,q6⟩:=HI.out;rw [List.take_of_length_le (by have:=Bc.out;omega)] at q5;exact .inl ⟨HO.out,HP.out,h2,D2,rfl,q1.give gI.out q3c (by have:=sY.out;have:=uy.out;have:=sD.out;omega),by rw [E1.out];have:=sY.out;have:=sD.out;omega,by rw [q5];exact HZ.out,q4⟩
      clear HI FM;go_wp2_with fail;go_ret2;exact HE.out
   | true =>
    obtain ⟨r6,NV⟩:0 < xn/\0 < yn:=by
     have hb:=oj.out.symm;rw [Bool.and_eq_true,decide_eq_true_eq,decide_eq_true_eq] at hb;exact hb
    clear oj
    obtain ⟨x,X',rfl⟩:∃ x X',X=x :: X':=by
     cases X with
     | nil=>have:=se.out;simp at this;omega
     | cons x X'=>exact ⟨x,X',rfl⟩
    obtain ⟨y,Y',rfl⟩:∃ y Y',Y=y :: Y':=by
     cases Y with
     | nil=>have:=Kg.out;simp at this;omega
     | cons y Y'=>exact ⟨y,Y',rfl⟩
    obtain ⟨bx,ox,rfl,Ax,m9,Kx⟩:=HU.out.xa.head;obtain ⟨by_,oy,rfl,Ay,fJ,Ky⟩:=HU.out.yb.head;have B0:=HU.out.own.below;have F9:=hide Ax;have II:=hide Ay;have Fu:=hide (Ax.on B0);have EZ:=hide (Ay.on B0);have IY:=hide (Kx.below B0);have G7:=hide (Ky.below B0);have oT:Hid (1 <= xn/\xn <= xc/\1 <= yn/\yn <= yc):=⟨m9,HU.out.xa.room,fJ,HU.out.yb.room⟩;clear Ax Ay Kx Ky B0 m9 fJ;go_upto_region 5 with fail
    have i1:(0:Int) < (xn:Int):=by omega
    have i2:(0:Int) < (yn:Int):=by omega
    refine wp_region_held_drew (S:=fun v=>(eE (.pointer (some ⟨bx,ox,none⟩))).run Tryz.prog v = .ok (.agg (ReC (mkR x))) v/\(eE (.pointer (some ⟨by_,oy,none⟩))).run Tryz.prog v = .ok (.agg (ReC (mkR y))) v) (by kernel_rfl) (⟨zM (Fu.out.on (zg wr)),zM (EZ.out.on (zg wr))⟩) (fun hHeld=>?_);refine wU 0 ?_;refine wU 1 ?_;refine wU 2 ?_;refine wU 3 ?_;refine wU 4 ?_;refine wU 5 ?_;refine wpAnyH_ready (rs:=[6]) (by kernel_rfl) (by simp) (.cons rfl (fun K hK=>?_) .nil);go_simp;go_wp2_with fail;refine (xU x y _ (IY.out.below (zg wr)) (G7.out.below (zg wr))).mono ?_;rintro e w4 ⟨z,rfl,hz,b4⟩;have uu:Below wr.heap.size wr w4:=(zg wr).trans b4;have aQ:=hide uu;refine hK.out _ _ (⟨zM (Fu.out.on (uu)),zM (EZ.out.on (uu))⟩) (fun hHeld=>?_);clear hK K b4 uu;refine wU 7 ?_
    refine wpAnyH_done (by kernel_rfl) ?_ _;clear hHeld;have Ct:Hid (z=ck (rck x) (rck y)):=zb9 (HU.out.okx x List.mem_cons_self).2.1 (HU.out.oky y List.mem_cons_self).2.1 hz;clear hz i1 i2;have nu:=hide (HU.out.later aQ.out);have uV:=hide (Fu.out.on aQ.out);have AC:=hide (EZ.out.on aQ.out);have tx:=hide (IY.out.below aQ.out);have Iz:=hide (G7.out.below aQ.out);clear HU Fu EZ IY G7 aQ;by_cases dg:z < 0
    ·skip
     go_upto_region 8 with fail
     have i1:(0:Int) < (xn:Int):=by have:=oT.out;omega
     have rY:∀ W:World,(sl1 (.slice (some ⟨bx,ox,none⟩) xn xc)).run Tryz.prog W = .ok (.slice (tl1 bx ox xc) (xn - 1) (xc - 1)) W:=fun W=>zbI bx ox xn xc (by have:=oT.out;omega) (by have:=oT.out;omega) W;refine wp_region_held_drew (S:=fun v=>(eE (.pointer (some ⟨bx,ox,none⟩))).run Tryz.prog v = .ok (.agg (ReC (mkR x))) v) (by kernel_rfl) (zM (uV.out.on (zg w4))) (fun hHeld=>?_);refine wU 0 ?_;refine wU 1 ?_;refine wU 2 ?_;refine wU 3 ?_;refine wU 7 ?_;refine wU 8 ?_;refine wpAnyH_ready (rs:=[4]) (by kernel_rfl) (by simp) (.cons rfl (fun K hK=>?_) .nil);go_simp;go_wp2_with fail;refine (j9 x _ (tx.out.below (zg w4))).mono ?_;rintro e wa ⟨c,rfl,gM,Rc1,Nc,ba,Cc⟩;have nk:Below w4.heap.size w4 wa:=(zg w4).trans ba;have oX:=uV.out.on nk;have re:bx < w4.heap.size:=World.block_lt_of_cell? _ _ uV.out.c0
     have Oa:=nu.out.own.later nk;have fN:eC h c.p:=fun j hj=>dA.new Nc (nu.out.own.own.lt j hj).2;obtain ⟨gb,cb2,wb,dS,Ob,oU⟩:=Oa.app c Rc1 fN (by have:=nu.out.num;have:=uy.out;have:=oT.out;omega)
     have ch:(HsV h).ownBlock≠some bx:=fun e=>by
      have h1:=(nu.out.own.own.lt bx e).1;have h2:bx < w0.heap.size:=World.block_lt_of_cell? _ _ F9.out.c0;omega
     have Db:iC wb ⟨bx,ox,none⟩ (mkR x):=by
      have hk:=oU bx (Nat.lt_of_lt_of_le re nk.size) ch
      have hc:∀ a:Addr,a.block=bx -> wb.cell? a=wa.cell? a:=fun a e=>by unfold World.cell?;rw [e,hk]
      exact ⟨by rw [hc _ rfl];exact oX.c0,by rw [hc _ rfl];exact oX.c1,by rw [hc _ rfl];exact oX.c2⟩
     have oR:Hid ((Builtin.append_ #[27,27] 27 #[.slice h.o h.n h.c,.slice (some ⟨wa.heap.size,0,none⟩) 1 1]).run Tryz.prog (wa.alloc (.cells #[.string c.s,.slice c.p.vo c.p.vn c.p.vc,.slice c.p.co c.p.cn c.p.cc] 78)) = .ok (.slice (some ⟨gb,0,none⟩) (h.n+1) cb2) wb):=dS;have HN:=hide (nu.out.left (zct jG nu.out.mg.sb (show ck (rck x) (rck y) < 0 by rw [<- Ct.out];exact dg)) gM Cc (Nc.mono (by have:=nu.out.own.below.size;exact this)) Ob rfl);have dm:Hid ((eE (.pointer (some ⟨bx,ox,none⟩))).run Tryz.prog (wa.alloc (.cells #[.string c.s,.slice c.p.vo c.p.vn c.p.vc,.slice c.p.co c.p.cn c.p.cc] 78)) = .ok (.agg (ReC (mkR x))) (wa.alloc (.cells #[.string c.s,.slice c.p.vo c.p.vn c.p.vc,.slice c.p.co c.p.cn c.p.cc] 78))):=zM (oX.on (ze wa _));have dX:=hide (zM Db);refine hK.out _ _ (zM oX) (fun hHeld=>?_);clear hK K dS Ob Oa fN gM Rc1 Nc ba Cc nk oX re oU ch Db
     refine wpAnyH_ready (rs:=[5]) (by kernel_rfl) (by simp) (.cons rfl (fun K hK=>?_) .nil);go_simp;refine hK.out _ _ dm.out (fun hHeld=>?_);clear hK K;refine wpAnyH_ready (rs:=[6]) (by kernel_rfl) (by simp) (.cons rfl (fun K hK=>?_) .nil);refine xx (by rfl) (.tmp 38) (.tmp 43) (by rfl) (by rfl) (by rfl) oR.out ?_;refine hK.out _ _ dX.out (fun hHeld=>?_);clear hK K;refine wpAnyH_ready (rs:=[9]) (by kernel_rfl) (by simp) (.cons rfl (fun K hK=>?_) .nil);go_simp;refine hK.out _ _ dX.out (fun hHeld=>?_);clear hK K;refine wpAnyH_ready (rs:=[10]) (by kernel_rfl) (by simp) (.cons rfl (fun K hK=>?_) .nil);go_simp;refine hK.out _ _ dX.out (fun hHeld=>?_);clear hK K;refine wpAnyH_done (by kernel_rfl) ?_ _;clear hHeld;clear rY;go_wp2_with fail;go_roundw
     case rel=>exact UIv.of HN.out
     case measure=>simp [sln];have:=oT.out;omega
    ·by_cases dn:0 < z
     ·skip
      go_upto_region 10 with fail
      have i1:(0:Int) < (yn:Int):=by have:=oT.out;omega
      have rY:∀ W:World,(sl1 (.slice (some ⟨by_,oy,none⟩) yn yc)).run Tryz.prog W = .ok (.slice (tl1 by_ oy yc) (yn - 1) (yc - 1)) W:=fun W=>zbI by_ oy yn yc (by have:=oT.out;omega) (by have:=oT.out;omega) W;refine wp_region_held_drew (S:=fun v=>(eE (.pointer (some ⟨by_,oy,none⟩))).run Tryz.prog v = .ok (.agg (ReC (mkR y))) v) (by kernel_rfl) (zM (AC.out.on (zg w4))) (fun hHeld=>?_);refine wU 0 ?_;refine wU 1 ?_;refine wU 2 ?_;refine wU 3 ?_;refine wU 7 ?_;refine wU 8 ?_;refine wpAnyH_ready (rs:=[4]) (by kernel_rfl) (by simp) (.cons rfl (fun K hK=>?_) .nil);go_simp;go_wp2_with fail;refine (j9 y _ (Iz.out.below (zg w4))).mono ?_;rintro e wa ⟨c,rfl,gM,Rc1,Nc,ba,Cc⟩;have nk:Below w4.heap.size w4 wa:=(zg w4).trans ba;have oX:=AC.out.on nk;have re:by_ < w4.heap.size:=World.block_lt_of_cell? _ _ AC.out.c0
      have Oa:=nu.out.own.later nk;have fN:eC h c.p:=fun j hj=>dA.new Nc (nu.out.own.own.lt j hj).2;obtain ⟨gb,cb2,wb,dS,Ob,oU⟩:=Oa.app c Rc1 fN (by have:=nu.out.num;have:=uy.out;have:=oT.out;omega)
      have ch:(HsV h).ownBlock≠some by_:=fun e=>by
       have h1:=(nu.out.own.own.lt by_ e).1;have h2:by_ < w0.heap.size:=World.block_lt_of_cell? _ _ II.out.c0;omega
      have Db:iC wb ⟨by_,oy,none⟩ (mkR y):=by
       have hk:=oU by_ (Nat.lt_of_lt_of_le re nk.size) ch
       have hc:∀ a:Addr,a.block=by_ -> wb.cell? a=wa.cell? a:=fun a e=>by unfold World.cell?;rw [e,hk]
       exact ⟨by rw [hc _ rfl];exact oX.c0,by rw [hc _ rfl];exact oX.c1,by rw [hc _ rfl];exact oX.c2⟩
      have oR:Hid ((Builtin.append_ #[27,27] 27 #[.slice h.o h.n h.c,.slice (some ⟨wa.heap.size,0,none⟩) 1 1]).run Tryz.prog (wa.alloc (.cells #[.string c.s,.slice c.p.vo c.p.vn c.p.vc,.slice c.p.co c.p.cn c.p.cc] 78)) = .ok (.slice (some ⟨gb,0,none⟩) (h.n+1) cb2) wb):=dS;have HN:=hide ((nu.out.symm.left (zct jG nu.out.mg.sa (show ck (rck y) (rck x) < 0 by have h1:=Ct.out;have h2:=jG.neg (rck x) (rck y);omega)) gM Cc (Nc.mono (by have:=nu.out.own.below.size;exact this)) Ob rfl).symm);have dm:Hid ((eE (.pointer (some ⟨by_,oy,none⟩))).run Tryz.prog (wa.alloc (.cells #[.string c.s,.slice c.p.vo c.p.vn c.p.vc,.slice c.p.co c.p.cn c.p.cc] 78)) = .ok (.agg (ReC (mkR y))) (wa.alloc (.cells #[.string c.s,.slice c.p.vo c.p.vn c.p.vc,.slice c.p.co c.p.cn c.p.cc] 78))):=zM (oX.on (ze wa _));have dX:=hide (zM Db);refine hK.out _ _ (zM oX) (fun hHeld=>?_)
      clear hK K dS Ob Oa fN gM Rc1 Nc ba Cc nk oX re oU ch Db;refine wpAnyH_ready (rs:=[5]) (by kernel_rfl) (by simp) (.cons rfl (fun K hK=>?_) .nil);go_simp;refine hK.out _ _ dm.out (fun hHeld=>?_);clear hK K;refine wpAnyH_ready (rs:=[6]) (by kernel_rfl) (by simp) (.cons rfl (fun K hK=>?_) .nil);refine xx (by rfl) (.tmp 50) (.tmp 55) (by rfl) (by rfl) (by rfl) oR.out ?_;refine hK.out _ _ dX.out (fun hHeld=>?_);clear hK K;refine wpAnyH_ready (rs:=[9]) (by kernel_rfl) (by simp) (.cons rfl (fun K hK=>?_) .nil);go_simp;refine hK.out _ _ dX.out (fun hHeld=>?_);clear hK K;refine wpAnyH_ready (rs:=[10]) (by kernel_rfl) (by simp) (.cons rfl (fun K hK=>?_) .nil);go_simp;refine hK.out _ _ dX.out (fun hHeld=>?_);clear hK K;refine wpAnyH_done (by kernel_rfl) ?_ _;clear hHeld;clear rY;go_wp2_with fail;go_roundw
      case rel=>exact UIv.of HN.out
      case measure=>simp [sln];have:=oT.out;omega
     ·obtain rfl:z=0:=by omega
      clear dg dn;have HN:=hide (nu.out.drop (by rw [zf8,<- (jG.eq (rck x) (rck y)).1 (by rw [<- Ct.out])];exact List.mem_cons_self) (Below.refl _ _));have rY:∀ W:World,(sl1 (.slice (some ⟨bx,ox,none⟩) xn xc)).run Tryz.prog W = .ok (.slice (tl1 bx ox xc) (xn - 1) (xc - 1)) W:=fun W=>zbI bx ox xn xc oT.out.1 oT.out.2.1 W;go_wp2_with fail;go_roundw
      case rel=>exact UIv.of HN.out
      case measure=>simp [sln];have:=oT.out;omega
end
end Go.Proofs.YtjffpimfngdggaaGreat
