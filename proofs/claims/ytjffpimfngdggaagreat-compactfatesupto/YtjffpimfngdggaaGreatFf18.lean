/- TUb QRy QRv QCp -/
import Derived.Test.YtjffpimfngdggaaGreatFf17
import Derived.Deep.CutRange
set_option maxRecDepth 100000
set_option maxHeartbeats 6400000
namespace Go.Proofs.YtjffpimfngdggaaGreat
section
open Go.RowKit Go.Maps Go.Sort
def sl1 (v:Value):Sem Value:=Instr.slice 27 v (some (.int .i64 1)) none none
theorem zjg (v:Value):Instr.slice 27 v (some (.int .i64 1)) none none=sl1 v:=rfl
def tl1 (b o c:Nat):Option Addr:=if c=1 then some ⟨b,o,none⟩ else some ⟨b,o+3,none⟩
theorem zb6 (b o n c:Nat) (hn:1 <= n) (hc:n <= c) (w:World):(sl1 (.slice (some ⟨b,o,none⟩) n c)).run Tryz.prog w = .ok (.slice (tl1 b o c) (n - 1) (c - 1)) w:=by
 obtain ⟨i0,hi,cY,dw,eI⟩:=info_parts io;unfold sl1 tl1
 have e1:(0:Int) <= 1/\(1:Int) <= (n:Int):=by omega
 by_cases h:c=1
 ·subst h;simp [Instr.slice,Instr.sliceBounds,Instr.sliceBound,asIntOf,run_underlying Tryz.underlying27,sizeOf,typeInfo,hi,e1.2]
 ·simp [Instr.slice,Instr.sliceBounds,Instr.sliceBound,asIntOf,run_underlying Tryz.underlying27,sizeOf,typeInfo,hi,dw,e1.2,h,Addr.add]
attribute [local go_sem ↓] zq zp qf qe zjg
attribute [local go_sem] zL zS qg
def sln:Value -> Nat
 | .slice _ n _=>n
 | _=>0
structure RcT (w:World) (ao:Option Addr) (n cap:Nat) (L:List Rc):Prop where
 src:RcS w ao n cap L
 room:n <= cap
 nil:ao=none -> cap=0
theorem RcT.below {w w':World} {ao:Option Addr} {n cap:Nat} {L:List Rc} (h:RcT w ao n cap L) (hb:Below w.heap.size w w'):RcT w' ao n cap L:=⟨h.src.below hb,h.room,h.nil⟩
theorem RcT.head {w:World} {ao:Option Addr} {n cap:Nat} {x:Rc} {L:List Rc} (h:RcT w ao n cap (x :: L)):∃ b o,ao=some ⟨b,o,none⟩/\iE w ⟨b,o,none⟩ (mkR x)/\1 <= n/\cM w x:=by
 have hl:=h.src.len;rw [List.length_cons] at hl
 cases ao with
 | none=>have:=h.src.nil rfl;omega
 | some ad =>
  obtain ⟨b,o,rfl⟩:=h.src.spot (by omega);have A:=h.src.at_ _ rfl 0 (by omega);rw [Addr.add_lit] at A;exact ⟨b,o,rfl,by simpa using A,by omega,h.src.ok x List.mem_cons_self⟩
theorem RcT.tail {w:World} {b o n cap:Nat} {x:Rc} {L:List Rc} (h:RcT w (some ⟨b,o,none⟩) n cap (x :: L)):RcT w (tl1 b o cap) (n - 1) (cap - 1) L:=by
 have hl:=h.src.len;rw [List.length_cons] at hl;have hc:=h.room;have hb:=h.src.big;unfold tl1;by_cases e:cap=1
 ·rw [if_pos e]
  have h0:L.length=0:=by omega
  obtain rfl:=List.eq_nil_of_length_eq_zero h0;exact ⟨⟨by simp;omega,fun h=>(by cases h),fun ad _ t ht=>(by omega),fun r hr=>(by cases hr),by omega⟩,by omega,fun h=>(by cases h)⟩
 ·rw [if_neg e];refine ⟨⟨by omega,fun h=>(by cases h),fun ad he t ht=>?_,fun r hr=>h.src.ok r (List.mem_cons_of_mem _ hr),by omega⟩,by omega,fun h=>(by cases h)⟩;obtain rfl:=Option.some.inj he;have A:=h.src.at_ _ rfl (t+1) (by omega);rw [Addr.add_lit] at A ⊢;rw [show o+3+t * 3=o+(t+1) * 3 by omega];simpa [List.getD] using A
structure UI (w0 wr:World) (L M:List Rc) (N:Nat) (ao:Option Addr) (n ca:Nat) (X:List Rc) (bo:Option Addr) (m cb:Nat) (Y:List Rc) (h:Hs) (D:List Rc):Prop where
 xa:RcT w0 ao n ca X
 yb:RcT w0 bo m cb Y
 own:aO w0.heap.size w0 wr h D
 fr:∀ r∈D,dA w0.heap.size r.p
 okx:∀ r∈X,ch r
 oky:∀ r∈Y,ch r
 okd:∀ r∈D,ch r
 mg:Mg ck (plR L) (plR M) (plR D) (plR X) (plR Y)
 num:h.n+n+m <= N
theorem zgH (x:Rc) (L:List Rc):plR (x :: L)=rck x :: plR L:=rfl
theorem yr (L:List Rc) (x:Rc):plR (L++[x])=plR L++[rck x]:=by simp [plR,rck]
theorem wE {r c:Rc} (h:ch r) (hs:c.s=r.s) (hC:af (aa r.p.P) c.p.P):rck c=rck r:=by
 have e:=(bH hC).2 h.2.1;unfold rck;rw [hs,e]
theorem jl {α : Type} {L:List α} {x : α} {P : α -> Prop} (h:∀ r∈L,P r) (hx:P x):∀ r∈L++[x],P r:=fun r hr=>by
 rcases List.mem_append.1 hr with q | q
 ·exact h r q
 ·obtain rfl:=List.mem_singleton.1 q;exact hx
theorem UI.left {w0 wr wr2:World} {L M:List Rc} {N b o n ca m cb:Nat} {x:Rc} {X:List Rc} {bo:Option Addr} {Y:List Rc} {h h2:Hs} {D:List Rc} {c:Rc} (U:UI w0 wr L M N (some ⟨b,o,none⟩) n ca (x :: X) bo m cb Y h D) (hY:∀ y∈plR Y,ck (rck x) y < 0)
  (hs:c.s=x.s) (hC:af (aa x.p.P) c.p.P) (hP:dA w0.heap.size c.p) (O:aO w0.heap.size w0 wr2 h2 (D++[c])) (hn:h2.n=h.n+1):UI w0 wr2 L M N (tl1 b o ca) (n - 1) (ca - 1) X bo m cb Y h2 (D++[c]):=by
 have hx:=U.okx x List.mem_cons_self;have e:=wE hx hs hC;have hl:=U.xa.src.len;rw [List.length_cons] at hl;have:=U.num;refine ⟨U.xa.tail,U.yb,O,jl U.fr hP,fun r hr=>U.okx r (List.mem_cons_of_mem _ hr),U.oky,jl U.okd (kQ hx e),?_,by omega⟩;rw [yr,e];exact U.mg.left hY
theorem UI.symm {w0 wr:World} {L M:List Rc} {N n ca m cb:Nat} {ao bo:Option Addr} {X Y:List Rc} {h:Hs} {D:List Rc} (U:UI w0 wr L M N ao n ca X bo m cb Y h D):UI w0 wr L M N bo m cb Y ao n ca X h D:=
 ⟨U.yb,U.xa,U.own,U.fr,U.oky,U.okx,U.okd,U.mg.symm,by have:=U.num;omega⟩
theorem UI.drop {w0 wr wr2:World} {L M:List Rc} {N b o n ca m cb:Nat} {x:Rc} {X:List Rc} {bo:Option Addr} {Y:List Rc} {h:Hs} {D:List Rc} (U:UI w0 wr L M N (some ⟨b,o,none⟩) n ca (x :: X) bo m cb Y h D) (hY:rck x∈plR Y) (hb:Below wr.heap.size wr wr2):UI w0 wr2 L M N (tl1 b o ca) (n - 1) (ca - 1) X bo m cb Y h D:=
 ⟨U.xa.tail,U.yb,U.own.later hb,U.fr,fun r hr=>U.okx r (List.mem_cons_of_mem _ hr),U.oky,U.okd,U.mg.drop hY,by have:=U.num;omega⟩
theorem UI.later {w0 wr wr2:World} {L M:List Rc} {N n ca m cb:Nat} {ao bo:Option Addr} {X Y:List Rc} {h:Hs} {D:List Rc} (U:UI w0 wr L M N ao n ca X bo m cb Y h D) (hb:Below wr.heap.size wr wr2):UI w0 wr2 L M N ao n ca X bo m cb Y h D:=
 ⟨U.xa,U.yb,U.own.later hb,U.fr,U.okx,U.oky,U.okd,U.mg,U.num⟩
def UIv (w0:World) (L M:List Rc) (N:Nat) (a b v:Value) (wr:World):Prop:=∃ (ao:Option Addr) (n ca:Nat) (X:List Rc) (bo:Option Addr) (m cb:Nat) (Y:List Rc) (h:Hs) (D:List Rc),a = .slice ao n ca/\b = .slice bo m cb/\v = .slice h.o h.n h.c/\Hid (UI w0 wr L M N ao n ca X bo m cb Y h D)
theorem UIv.of {w0 wr:World} {L M:List Rc} {N n ca m cb:Nat} {ao bo:Option Addr} {X Y:List Rc} {h:Hs} {D:List Rc} (U:UI w0 wr L M N ao n ca X bo m cb Y h D):UIv w0 L M N (.slice ao n ca) (.slice bo m cb) (.slice h.o h.n h.c) wr:=⟨ao,n,ca,X,bo,m,cb,Y,h,D,rfl,rfl,rfl,U⟩
structure GvR (w w':World) (h:Hs) (F:List Rc):Prop where
 src:RcS w' h.o h.n h.c F
 room:h.n <= h.c
 nil:h.o=none -> h.c=0
 new:∀ ad,h.o=some ad -> w.heap.size <= ad.block
 fresh:∀ r∈F,dA w.heap.size r.p
 below:Below w.heap.size w w'
theorem GvR.row {w w':World} {h:Hs} {F:List Rc} (g:GvR w w' h F):RcT w' h.o h.n h.c F:=⟨g.src,g.room,g.nil⟩
theorem zbt {B:Nat} {w W:World} {h:Hs} {L:List Rc} (O:aO B w W h L) (hn:h.n <= 2199023255552):RcT W h.o h.n h.c L/\(∀ ad,h.o=some ad -> B <= ad.block)/\Below w.heap.size w W:=by
 refine ⟨⟨O.src hn,?_,?_⟩,?_,O.below⟩
 all_goals
  have hr:=O.own;obtain ⟨ao,n,c⟩:=h;rcases hr.2 with ⟨h0,fV⟩ | ⟨g,cap,cur,hv,dU,dx,hnc,fS,hcsz,htake⟩
  ·simp only [HsV,Value.slice.injEq] at h0;obtain ⟨rfl,rfl,rfl⟩:=h0;simp
  ·simp only [HsV,Value.slice.injEq] at hv;obtain ⟨rfl,-,rfl⟩:=hv
   first
    | exact hnc
    | exact fun ad e=>(by cases e;exact dU)
    | exact fun e=>(by cases e)
theorem aO.give {w w0 W:World} {h:Hs} {L:List Rc} (O:aO w0.heap.size w0 W h L) (hb:Below w.heap.size w w0) (hf:∀ r∈L,dA w0.heap.size r.p) (hn:h.n <= 2199023255552):GvR w W h L:=by
 have dE:=hb.size;obtain ⟨⟨q1,q2,q3⟩,q4,q5⟩:=zbt O hn;exact ⟨q1,q2,q3,fun ad e=>Nat.le_trans dE (q4 ad e),fun r hr=>⟨fun ad e=>Nat.le_trans dE ((hf r hr).1 ad e),fun ad e=>Nat.le_trans dE ((hf r hr).2 ad e)⟩,hb.trans (q5.mono dE)⟩
def UnA (w w':World) (x:Ending) (L:List Rc) (n:Nat) (M:List Rc) (m:Nat):Prop:=(OkR L n/\OkR M m/\∃ (h:Hs) (F:List Rc),x = .returned (.tuple #[HsV h,.int .i64 0])/\GvR w w' h F/\h.n <= n+m/\ly L M F)∨(¬ (OkR L n/\OkR M m)/\x = .returned (.tuple #[.slice none 0 0,.int .i64 1])/\Below w.heap.size w w')
theorem zaF (ao bo:Option Addr) (n ca m cb:Nat) (L M:List Rc) (w:World) (hS:RcT w ao n ca L) (hR:RcT w bo m cb M) (m4:n+m <= 2199023255551) :
  Calls Tryz.prog 124 #[.slice ao n ca,.slice bo m cb] w fun x w'=>UnA w w' x L n M m:=by
 have HS:=hide hS;have HR:=hide hR;have Ao:=hide m4;clear hS hR m4;go_enter Tryz.func124,Tryz.ntmps124;go_wp2_with fail;refine (xp ao n ca L _ HS.src).mono ?_;rintro x w1 ⟨z,rfl,hz,b1⟩;have aM:=hide b1;clear b1;rcases hz with ⟨rfl,hO⟩ | ⟨rfl,hO⟩;rotate_left
 ·have HE:Hid (UnA w w1 (.returned (.tuple #[.slice none 0 0,.int .i64 1])) L n M m):=.inr ⟨fun h=>hO h.1,rfl,aM.out⟩;clear hO;go_wp2_with fail;go_ret2;exact HE.out
 have HO:=hide hO;clear hO;go_wp2_with fail;refine (xp bo m cb M _ (HR.src.below aM)).mono ?_;rintro x w0 ⟨z,rfl,hz,b2⟩;have ie:=wTr aM b2;clear b2;rcases hz with ⟨rfl,hP⟩ | ⟨rfl,hP⟩;rotate_left
 ·have HE:Hid (UnA w w0 (.returned (.tuple #[.slice none 0 0,.int .i64 1])) L n M m):=.inr ⟨fun h=>hP h.2,rfl,ie.out⟩;clear hP;go_wp2_with fail;go_ret2;exact HE.out
 have lU:Hid (((∀ r∈L,ch r)/\Srt ck (plR L))/\(∀ r∈M,ch r)/\Srt ck (plR M)):=⟨xy.1 (by rw [HS.src.len];exact HO),xy.1 (by rw [HR.src.len];exact hP)⟩;have HP:=hide hP;have GV:Hid (UI w0 w0 L M (n+m) ao n ca L bo m cb M hs0 []):=⟨HS.below ie,HR.below ie,aO.nil w0,fun r hr=>(by cases hr),lU.1.1,lU.2.1,fun r hr=>(by cases hr),Mg.start lU.1.2 lU.2.2,by show 0+n+m <= _;omega⟩;clear hP aM;obtain ⟨N0,Hw⟩:∃ N0,n+m=N0:=⟨_,rfl⟩;rw [Hw] at GV Ao;have FD:=hide Hw;clear Hw;go_wp2_with fail;go_loopw [0,1,6] (fun a b v wr=>UIv w0 L M N0 a b v wr) (fun a b _ _=>sln a+sln b)
 case atStart=>exact UIv.of GV.out
 case round =>
  obtain ⟨xo,xn,xc,X,yo,yn,yc,Y,h,D,rfl,rfl,rfl,HU⟩:=hrel
  rename World=>wr
  clear GV lU;have tB:Hid (X.length=xn):=HU.xa.src.len;have LH:Hid (Y.length=yn):=HU.yb.src.len;obtain ⟨bb,o4⟩:∃ bb:Bool,Hid (bb=(decide (0 < xn) && decide (0 < yn))):=⟨_,rfl⟩;go_upto_region 4 with fail
  go_cut [25] from 18 to 58 (fun s wx=>s = .bool bb/\wx=wr)
  case first =>
   by_cases h1:0 < xn
   ·have d1:decide (0 < xn)=true:=decide_eq_true h1
    have i1:(0:Int) < (xn:Int):=by omega
    by_cases h2:0 < yn
    ·have d2:decide (0 < yn)=true:=decide_eq_true h2
     have i2:(0:Int) < (yn:Int):=by omega
     obtain rfl:bb=true:=by rw [o4.out,d1,d2];rfl
     clear o4;go_wp2_with fail;go_meet
     case rel=>exact ⟨rfl,rfl⟩
    ·obtain rfl:yn=0:=by omega
     obtain rfl:bb=false:=by rw [o4.out];simp
     clear o4;go_wp2_with fail;go_meet
     case rel=>exact ⟨rfl,rfl⟩
   ·obtain rfl:xn=0:=by omega
    obtain rfl:bb=false:=by rw [o4.out];simp
    clear o4;go_wp2_with fail;go_meet
    case rel=>exact ⟨rfl,rfl⟩
  case rest =>
   obtain ⟨rfl,rfl⟩:=hcut
   rename World=>wr
   cases bb with
   | false =>
    have HZ:Hid (UnK ck (plR L) (plR M) (plR D++plR (X++Y))):=by
     have hb:=o4.out;by_cases h1:0 < xn
     ·have h2:¬ 0 < yn:=fun h2=>by rw [decide_eq_true h1,decide_eq_true h2] at hb;cases hb
      obtain rfl:Y=[]:=List.eq_nil_of_length_eq_zero (by have:=LH.out;omega);rw [List.append_nil];exact HU.mg.doneL
     ·obtain rfl:X=[]:=List.eq_nil_of_length_eq_zero (by have:=tB.out;omega);exact HU.mg.doneR
    clear o4;have us:=hide HU.num;have o8:Hid (∀ r∈X++Y,cM w0 r):=fun r hr=>(List.mem_append.1 hr).elim (HU.xa.src.ok r) (HU.yb.src.ok r);have oe:Hid (RcT wr xo xn xc X/\RcT wr yo yn yc Y/\(∀ r∈X++Y,ch r)/\xn+yn <= 2199023255551):=⟨HU.xa.below HU.own.below,HU.yb.below HU.own.below,fun r hr=>(List.mem_append.1 hr).elim (HU.okx r) (HU.oky r),by have:=us.out;have:=Ao.out;omega⟩;obtain ⟨gc,LI⟩:∃ gc,wr.heap.size=gc:=⟨_,rfl⟩;obtain ⟨w5,rB⟩:∃ w5,wr.alloc (.cells #[.slice xo xn xc,.slice yo yn yc] 27)=w5:=⟨_,rfl⟩
    have b5:Below wr.heap.size wr w5:=by rw [<- rB];exact ze wr _
    have c5:w5.cell? ⟨gc,0,none⟩=some (.slice xo xn xc)/\w5.cell? ⟨gc,1,none⟩=some (.slice yo yn yc):=by rw [<- rB,<- LI];exact ⟨by simp,by simp⟩
    have ru:=hide c5;have Gq:=hide (HU.later b5);have gK:=hide (oe.1.below b5);have IK:=hide (oe.2.1.below b5);clear b5 c5 HU;go_wp2_with fail;clear rB LI;refine (zbI gc xo yo xn xc yn yc X Y _ gK.src IK.src gK.nil IK.nil ru.1 ru.2 (by have:=oe.2.2.2;omega)).mono ?_;rintro e w6 ⟨k6,rfl,Ka,O6⟩;have FT:Hid (RcS w6 k6.o k6.n k6.c (X++Y)):=O6.src (by have:=oe.2.2.2;omega);have Je:=hide (Gq.later O6.below)
    have BW:Hid ((∀ ad,k6.o=some ad -> w5.heap.size <= ad.block/\ad.block < w6.heap.size)/\w5.heap.size <= w6.heap.size/\∀ r∈X++Y,cM w0 r):=by
     refine ⟨fun ad e=>O6.own.lt ad.block (by show (Value.slice k6.o k6.n k6.c).ownBlock=_;rw [e];rfl),O6.below.size,o8.out⟩
    have Ec:Hid (∀ q,(HsV h).ownBlock=some q -> q < w5.heap.size∨w6.heap.size <= q):=fun q hq=>.inl (Gq.own.own.lt q hq).2;have Lk:=hide Ka;have Jx:Hid ((X++Y).length=k6.n):=FT.len;clear O6 Gq gK IK ru Ka;obtain ⟨Z,L8⟩:∃ Z,Hid (X++Y=Z):=⟨_,rfl⟩;have Lm:=hide oe.2.2.1;rw [L8.out] at FT Jx HZ Lm BW;obtain ⟨zo,zn,zc⟩:=k6;rw [show HsV ⟨zo,zn,zc⟩=Value.slice zo zn zc from rfl];have IA:Hid (RcS w6 zo zn zc Z):=FT.out;have Bs:Hid (Z.length=zn):=Jx.out;have tU:Hid (zn=xn+yn):=Lk.out;have Ew:Hid ((∀ ad,zo=some ad -> w5.heap.size <= ad.block/\ad.block < w6.heap.size)/\w5.heap.size <= w6.heap.size/\∀ r∈Z,cM w0 r):=BW.out;clear FT Jx Lk BW;go_wp2_with fail;have Fi:Hid ((∀ ad,zo=some ad -> w5.heap.size <= ad.block/\ad.block < w6.heap.size)/\w5.heap.size <= w6.heap.size/\∀ r∈Z,cM w0 r):=Ew.out
    go_loopw [6,64] (fun v i wx=>∃ (k:Nat) (h2:Hs) (D2:List Rc),k <= zn/\v = .slice h2.o h2.n h2.c/\i = .int .i64 (k:Int)/\Hid (aO w0.heap.size w0 wx h2 D2/\(∀ ad,zo=some ad -> wx.heap[ad.block]? = w6.heap[ad.block]?)/\(∀ q,(HsV h2).ownBlock=some q -> q < w5.heap.size∨w6.heap.size <= q)/\w6.heap.size <= wx.heap.size/\(∀ r∈D2,dA w0.heap.size r.p)/\(∀ r∈D2,ch r)/\plR D2=plR D++plR (Z.take k)/\h2.n=h.n+k)) (fun _ i _=>zn - (intOf i).toNat)
    case atStart=>exact ⟨0,h,D,Nat.zero_le _,rfl,rfl,Je.own,fun _ _=>rfl,Ec.out,Nat.le_refl _,Je.fr,Je.okd,by simp [plR],rfl⟩
    case round =>
     obtain ⟨k,h2,D2,hk,rfl,rfl,HI⟩:=hrel
     rename World=>wx
     have FU:=hide (zh1 IA.out HI.2.1 (fun r hr=>(Fi.2.2 r hr).below HI.1.below));by_cases ak:k < zn
     ·have aX:(k:Int) < (zn:Int):=by omega
      have Ap:zn <= 2199023255551:=by have:=tU.out;have:=oe.2.2.2;omega
      obtain ⟨ad,cU,A0⟩:=FU.at k ak;have lZ:=FU.okAt k ak;have HT:Hid (plR (Z.take (k+1))=plR (Z.take k)++[rck (Z.getD k rc0)]/\ch (Z.getD k rc0)):=⟨kS Z k (by rw [Bs.out];exact ak),Lm.out _ (x6 (by rw [Bs.out];exact ak))⟩;obtain ⟨q,Hq⟩:∃ q,Hid (Z.getD k rc0=q):=⟨_,rfl⟩;rw [Hq.out] at A0 lZ HT;have DH:=hide cU;subst cU;have dF:=zC A0;obtain ⟨g7,ia⟩:∃ g7,wx.heap.size=g7:=⟨_,rfl⟩;obtain ⟨w7,cd,X7,B7,S7⟩:=gt wx (mkR q) g7 ia;have fj:=hide (HI.1.later B7);have dR:=hide B7;have t7:=hide X7;have BM:=hide (lZ.below B7);have l7:=qK X7;have aK:=hide ak;clear A0 X7 B7 S7 lZ ak hk;go_wp2_with fail;clear cd dF ia l7;refine (ki q _ BM).mono ?_;rintro e wa ⟨c,rfl,gR,Rc1,Nc,ba,Cc⟩;have Oa:=fj.later ba;have gB:eY h2 c.p:=fun j hj=>dI.new Nc (fj.own.lt j hj).2
      obtain ⟨gb,cb2,wb,ee,Ob,oE,p9,tp⟩:=Oa.appAt c Rc1 gB (by have:=HI.2.2.2.2.2.2.2;have:=us.out;have:=Ao.out;have:=tU.out;have:=aK.out;omega);have oD:Hid ((Builtin.append_ #[27,27] 27 #[.slice h2.o h2.n h2.c,.slice (some ⟨wa.heap.size,0,none⟩) 1 1]).run Tryz.prog (wa.alloc (.cells #[.string c.s,.slice c.p.vo c.p.vn c.p.vc,.slice c.p.co c.p.cn c.p.cc] 78)) = .ok (.slice (some ⟨gb,0,none⟩) (h2.n+1) cb2) wb):=ee
      have HN:Hid (aO w0.heap.size w0 wb ⟨some ⟨gb,0,none⟩,h2.n+1,cb2⟩ (D2++[c])/\(∀ ad2,some ad=some ad2 -> wb.heap[ad2.block]? = w6.heap[ad2.block]?)/\(∀ q,(HsV ⟨some ⟨gb,0,none⟩,h2.n+1,cb2⟩).ownBlock=some q -> q < w5.heap.size∨w6.heap.size <= q)/\w6.heap.size <= wb.heap.size/\(∀ r∈D2++[c],dA w0.heap.size r.p)/\(∀ r∈D2++[c],ch r)/\plR (D2++[c])=plR D++plR (Z.take (k+1))/\h2.n+1=h.n+(k+1)):=by
       have e:=wE HT.2 gR Cc;have s7:=dR.size;have sa:=ba.size;have s6:=HI.2.2.2.1;refine ⟨Ob,fun ad2 e2=>?_,fun q2 m7=>?_,?_,jl HI.2.2.2.2.1 (Nc.mono (by have:=fj.below.size;exact this)),jl HI.2.2.2.2.2.1 (kQ HT.2 e),?_,by have:=HI.2.2.2.2.2.2.2;omega⟩
       ·obtain rfl:=Option.some.inj e2;have OO:=Fi.1 ad rfl;rw [oE ad.block (by omega) (fun e3=>by have:=HI.2.2.1 _ e3;omega),ba.block ad.block (by omega),dR.block ad.block (by omega)];exact HI.2.1 ad rfl
       ·have e4:gb=q2:=Option.some.inj m7;subst e4;rcases p9 with p9 | p9
        ·exact HI.2.2.1 _ p9
        ·exact .inr (by omega)
       ·have hh:wa.heap.size <= wb.heap.size:=tp;omega
       ·rw [yr,e,HI.2.2.2.2.2.2.1,HT.1,List.append_assoc]
      clear ee Ob Oa gB gR Rc1 Nc ba Cc oE p9 tp FU;go_wp2_with (at_builtin;refine xI rfl (.tmp 68) (.tmp 71) rfl rfl rfl oD.out ?_);go_roundw
      case rel=>exact ⟨k+1,⟨some ⟨gb,0,none⟩,h2.n+1,cb2⟩,D2++[c],aK.out,rfl,by simp,HN.out⟩
      case measure=>simp [intOf];have:=aK.out;omega
     ·obtain rfl:k=zn:=by omega
      have aX:¬ (k:Int) < (k:Int):=by omega
      have HE:Hid (UnA w wx (.returned (.tuple #[.slice h2.o h2.n h2.c,.int .i64 0])) L n M m):=by
       obtain ⟨q1,q2,q3,q3b,q3c,q4,q5,q6⟩:=HI.out;rw [List.take_of_length_le (by have:=Bs.out;omega)] at q5;exact .inl ⟨HO.out,HP.out,h2,D2,rfl,q1.give ie.out q3c (by have:=us.out;have:=Ao.out;have:=tU.out;omega),by rw [FD.out];have:=us.out;have:=tU.out;omega,by rw [q5];exact HZ,q4⟩
      clear HI FU;go_wp2_with fail;go_ret2;exact HE.out
   | true =>
    obtain ⟨oA,OK⟩:0 < xn/\0 < yn:=by
     have hb:=o4.symm;rw [Bool.and_eq_true,decide_eq_true_eq,decide_eq_true_eq] at hb;exact hb
    clear o4
    obtain ⟨x,X',rfl⟩:∃ x X',X=x :: X':=by
     cases X with
     | nil=>have:=tB.out;simp at this;omega
     | cons x X'=>exact ⟨x,X',rfl⟩
    obtain ⟨y,Y',rfl⟩:∃ y Y',Y=y :: Y':=by
     cases Y with
     | nil=>have:=LH.out;simp at this;omega
     | cons y Y'=>exact ⟨y,Y',rfl⟩
    obtain ⟨bx,ox,rfl,Ax,nR,Kx⟩:=HU.xa.head;obtain ⟨by_,oy,rfl,Ay,gz,Ky⟩:=HU.yb.head;have B0:=HU.own.below;have GD:=hide Ax;have IB:=hide Ay;have FE:=hide (Ax.on B0);have FZ:=hide (Ay.on B0);have Ia:=hide (Kx.below B0);have Jw:=hide (Ky.below B0);have pX:Hid (1 <= xn/\xn <= xc/\1 <= yn/\yn <= yc):=⟨nR,HU.xa.room,gz,HU.yb.room⟩;clear Ax Ay Kx Ky B0 nR gz;go_upto_region 5 with fail
    have i1:(0:Int) < (xn:Int):=by omega
    have i2:(0:Int) < (yn:Int):=by omega
    refine wp_region_held_drew (S:=fun v=>(dY (.pointer (some ⟨bx,ox,none⟩))).run Tryz.prog v = .ok (.agg (ReC (mkR x))) v/\(dY (.pointer (some ⟨by_,oy,none⟩))).run Tryz.prog v = .ok (.agg (ReC (mkR y))) v) (by kernel_rfl) (⟨zC (FE.on (zf wr)),zC (FZ.on (zf wr))⟩) (fun hHeld=>?_);refine wU 0 ?_;refine wU 1 ?_;refine wU 2 ?_;refine wU 3 ?_;refine wU 4 ?_;refine wU 5 ?_;refine wR 6 fun K hK=>?_;go_simp;go_wp2_with fail;refine (ja x y _ (Ia.below (zf wr)) (Jw.below (zf wr))).mono ?_;rintro e w4 ⟨z,rfl,hz,b4⟩;have Aq:Below wr.heap.size wr w4:=(zf wr).trans b4;have aI:=hide Aq;refine hK.out _ _ (⟨zC (FE.on (Aq)),zC (FZ.on (Aq))⟩) (fun hHeld=>?_);clear hK K b4 Aq;refine wU 7 ?_
    refine wD ?_ _;clear hHeld;have CO:Hid (z=ck (rck x) (rck y)):=zcz (HU.okx x List.mem_cons_self).2.1 (HU.oky y List.mem_cons_self).2.1 hz;clear hz i1 i2;have og:=hide (HU.later aI);have AZ:=hide (FE.on aI);have BG:=hide (FZ.on aI);have ul:=hide (Ia.below aI);have GO:=hide (Jw.below aI);clear HU FE FZ Ia Jw aI;by_cases cY:z < 0
    ·skip
     go_upto_region 8 with fail
     have i1:(0:Int) < (xn:Int):=by have:=pX.out;omega
     have BA:∀ W:World,(sl1 (.slice (some ⟨bx,ox,none⟩) xn xc)).run Tryz.prog W = .ok (.slice (tl1 bx ox xc) (xn - 1) (xc - 1)) W:=fun W=>zb6 bx ox xn xc (by have:=pX.out;omega) (by have:=pX.out;omega) W;refine wp_region_held_drew (S:=fun v=>(dY (.pointer (some ⟨bx,ox,none⟩))).run Tryz.prog v = .ok (.agg (ReC (mkR x))) v) (by kernel_rfl) (zC (AZ.on (zf w4))) (fun hHeld=>?_);refine wU 0 ?_;refine wU 1 ?_;refine wU 2 ?_;refine wU 3 ?_;refine wU 7 ?_;refine wU 8 ?_;refine wR 4 fun K hK=>?_;go_simp;go_wp2_with fail;refine (ki x _ (ul.below (zf w4))).mono ?_;rintro e wa ⟨c,rfl,gR,Rc1,Nc,ba,Cc⟩;have oj:Below w4.heap.size w4 wa:=(zf w4).trans ba;have pW:=AZ.on oj;have rU:bx < w4.heap.size:=World.block_lt_of_cell? _ _ AZ.c0
     have Oa:=og.own.later oj;have gB:eY h c.p:=fun j hj=>dI.new Nc (og.own.own.lt j hj).2;obtain ⟨gb,cb2,wb,ee,Ob,oE⟩:=Oa.app c Rc1 gB (by have:=og.num;have:=Ao.out;have:=pX.out;omega)
     have cr:(HsV h).ownBlock≠some bx:=fun e=>by
      have h1:=(og.own.own.lt bx e).1;have h2:bx < w0.heap.size:=World.block_lt_of_cell? _ _ GD.c0;omega
     have DU:iE wb ⟨bx,ox,none⟩ (mkR x):=by
      have hk:=oE bx (Nat.lt_of_lt_of_le rU oj.size) cr
      have hc:∀ a:Addr,a.block=bx -> wb.cell? a=wa.cell? a:=fun a e=>by unfold World.cell?;rw [e,hk]
      exact ⟨by rw [hc _ rfl];exact pW.c0,by rw [hc _ rfl];exact pW.c1,by rw [hc _ rfl];exact pW.c2⟩
     have oD:Hid ((Builtin.append_ #[27,27] 27 #[.slice h.o h.n h.c,.slice (some ⟨wa.heap.size,0,none⟩) 1 1]).run Tryz.prog (wa.alloc (.cells #[.string c.s,.slice c.p.vo c.p.vn c.p.vc,.slice c.p.co c.p.cn c.p.cc] 78)) = .ok (.slice (some ⟨gb,0,none⟩) (h.n+1) cb2) wb):=ee;have HN:=hide (og.left (zcT jS og.mg.sb (show ck (rck x) (rck y) < 0 by rw [<- CO.out];exact cY)) gR Cc (Nc.mono (by have:=og.own.below.size;exact this)) Ob rfl);have dg:Hid ((dY (.pointer (some ⟨bx,ox,none⟩))).run Tryz.prog (wa.alloc (.cells #[.string c.s,.slice c.p.vo c.p.vn c.p.vc,.slice c.p.co c.p.cn c.p.cc] 78)) = .ok (.agg (ReC (mkR x))) (wa.alloc (.cells #[.string c.s,.slice c.p.vo c.p.vn c.p.vc,.slice c.p.co c.p.cn c.p.cc] 78))):=zC (pW.on (ze wa _));have dZ:=hide (zC DU);refine hK.out _ _ (zC pW) (fun hHeld=>?_);clear hK K ee Ob Oa gB gR Rc1 Nc ba Cc oj pW rU oE cr DU
     refine wR 5 fun K hK=>?_;go_simp;refine hK.out _ _ dg.out (fun hHeld=>?_);clear hK K;refine wR 6 fun K hK=>?_;refine xk (by rfl) (.tmp 38) (.tmp 43) (by rfl) (by rfl) (by rfl) oD.out ?_;refine hK.out _ _ dZ.out (fun hHeld=>?_);clear hK K;refine wR 9 fun K hK=>?_;go_simp;refine hK.out _ _ dZ.out (fun hHeld=>?_);clear hK K;refine wR 10 fun K hK=>?_;go_simp;refine hK.out _ _ dZ.out (fun hHeld=>?_);clear hK K;refine wD ?_ _;clear hHeld;clear BA;go_wp2_with fail;go_roundw
     case rel=>exact UIv.of HN.out
     case measure=>simp [sln];have:=pX.out;omega
    ·by_cases dw:0 < z
     ·skip
      go_upto_region 10 with fail
      have i1:(0:Int) < (yn:Int):=by have:=pX.out;omega
      have BA:∀ W:World,(sl1 (.slice (some ⟨by_,oy,none⟩) yn yc)).run Tryz.prog W = .ok (.slice (tl1 by_ oy yc) (yn - 1) (yc - 1)) W:=fun W=>zb6 by_ oy yn yc (by have:=pX.out;omega) (by have:=pX.out;omega) W;refine wp_region_held_drew (S:=fun v=>(dY (.pointer (some ⟨by_,oy,none⟩))).run Tryz.prog v = .ok (.agg (ReC (mkR y))) v) (by kernel_rfl) (zC (BG.on (zf w4))) (fun hHeld=>?_);refine wU 0 ?_;refine wU 1 ?_;refine wU 2 ?_;refine wU 3 ?_;refine wU 7 ?_;refine wU 8 ?_;refine wR 4 fun K hK=>?_;go_simp;go_wp2_with fail;refine (ki y _ (GO.below (zf w4))).mono ?_;rintro e wa ⟨c,rfl,gR,Rc1,Nc,ba,Cc⟩;have oj:Below w4.heap.size w4 wa:=(zf w4).trans ba;have pW:=BG.on oj;have rU:by_ < w4.heap.size:=World.block_lt_of_cell? _ _ BG.c0
      have Oa:=og.own.later oj;have gB:eY h c.p:=fun j hj=>dI.new Nc (og.own.own.lt j hj).2;obtain ⟨gb,cb2,wb,ee,Ob,oE⟩:=Oa.app c Rc1 gB (by have:=og.num;have:=Ao.out;have:=pX.out;omega)
      have cr:(HsV h).ownBlock≠some by_:=fun e=>by
       have h1:=(og.own.own.lt by_ e).1;have h2:by_ < w0.heap.size:=World.block_lt_of_cell? _ _ IB.c0;omega
      have DU:iE wb ⟨by_,oy,none⟩ (mkR y):=by
       have hk:=oE by_ (Nat.lt_of_lt_of_le rU oj.size) cr
       have hc:∀ a:Addr,a.block=by_ -> wb.cell? a=wa.cell? a:=fun a e=>by unfold World.cell?;rw [e,hk]
       exact ⟨by rw [hc _ rfl];exact pW.c0,by rw [hc _ rfl];exact pW.c1,by rw [hc _ rfl];exact pW.c2⟩
      have oD:Hid ((Builtin.append_ #[27,27] 27 #[.slice h.o h.n h.c,.slice (some ⟨wa.heap.size,0,none⟩) 1 1]).run Tryz.prog (wa.alloc (.cells #[.string c.s,.slice c.p.vo c.p.vn c.p.vc,.slice c.p.co c.p.cn c.p.cc] 78)) = .ok (.slice (some ⟨gb,0,none⟩) (h.n+1) cb2) wb):=ee;have HN:=hide ((og.symm.left (zcT jS og.mg.sa (show ck (rck y) (rck x) < 0 by have h1:=CO.out;have h2:=jS.neg (rck x) (rck y);omega)) gR Cc (Nc.mono (by have:=og.own.below.size;exact this)) Ob rfl).symm);have dg:Hid ((dY (.pointer (some ⟨by_,oy,none⟩))).run Tryz.prog (wa.alloc (.cells #[.string c.s,.slice c.p.vo c.p.vn c.p.vc,.slice c.p.co c.p.cn c.p.cc] 78)) = .ok (.agg (ReC (mkR y))) (wa.alloc (.cells #[.string c.s,.slice c.p.vo c.p.vn c.p.vc,.slice c.p.co c.p.cn c.p.cc] 78))):=zC (pW.on (ze wa _));have dZ:=hide (zC DU);refine hK.out _ _ (zC pW) (fun hHeld=>?_)
      clear hK K ee Ob Oa gB gR Rc1 Nc ba Cc oj pW rU oE cr DU;refine wR 5 fun K hK=>?_;go_simp;refine hK.out _ _ dg.out (fun hHeld=>?_);clear hK K;refine wR 6 fun K hK=>?_;refine xk (by rfl) (.tmp 50) (.tmp 55) (by rfl) (by rfl) (by rfl) oD.out ?_;refine hK.out _ _ dZ.out (fun hHeld=>?_);clear hK K;refine wR 9 fun K hK=>?_;go_simp;refine hK.out _ _ dZ.out (fun hHeld=>?_);clear hK K;refine wR 10 fun K hK=>?_;go_simp;refine hK.out _ _ dZ.out (fun hHeld=>?_);clear hK K;refine wD ?_ _;clear hHeld;clear BA;go_wp2_with fail;go_roundw
      case rel=>exact UIv.of HN.out
      case measure=>simp [sln];have:=pX.out;omega
     ·obtain rfl:z=0:=by omega
      clear cY dw;have HN:=hide (og.drop (by rw [zgH,<- (jS.eq (rck x) (rck y)).1 (by rw [<- CO.out])];exact List.mem_cons_self) (Below.refl _ _));have BA:∀ W:World,(sl1 (.slice (some ⟨bx,ox,none⟩) xn xc)).run Tryz.prog W = .ok (.slice (tl1 bx ox xc) (xn - 1) (xc - 1)) W:=fun W=>zb6 bx ox xn xc pX.1 pX.2.1 W;go_wp2_with fail;go_roundw
      case rel=>exact UIv.of HN.out
      case measure=>simp [sln];have:=pX.out;omega
end
section
open Go.RowKit
attribute [local go_sem ↓] zq zp kW kH
attribute [local go_sem] xH qY zI zi qq zk qL
def szn (N:Nat -> List Rn):Nat -> Int
 | 0=>0
 | k+1=>szn N k+sz (N k)
theorem zhX {N:Nat -> List Rn}:∀ k,(∀ r,r < k -> form 1 (N r)) -> 0 <= szn N k/\szn N k <= k * 1000000000
 | 0,_=>by simp [szn]
 | k+1,h=>by
  have h1:=zhX k (fun r hr=>h r (by omega));have h2:=zhY (h k (by omega));simp only [szn];omega
theorem zip (R:List Rn) (t:Nat) (h:t < R.length):sz (R.take (t+1))=sz (R.take t)+((R.getD t rn0).hi - (R.getD t rn0).lo+1):=by
 rw [zcd R t h,za6,zeC];simp [sz]
theorem yi (a:Pv) (w:World) (hS:am w a):Calls Tryz.prog 50 #[PV a] w fun e w'=>∃ N:Nat -> List Rn,(∀ r,r < 16 -> aN (aa a.P r) (N r))/\e = .returned (.int .i64 (szn N 16))/\Below w.heap.size w w':=by
 have b1:=ze w (.cells (PC a) 26);have HX:=hide (zm w a);have al:=hide b1;have HS:=hide (hS.below b1);clear b1 hS
 have l1:=zj HX.at
 go_enter Tryz.func50,Tryz.ntmps50;go_wp2_with fail;refine (zat a _ HS).mono ?_;rintro e w2 ⟨T,N,rfl,hT,b4⟩;have HT:=hide hT;have aI:=wTr al b4;have b5:=ze w2 (.cells (JA fun _=>si0) 141);have cd:=zae (F':=T) (qG w2 141 (fun _=>si0));have HZ:=hide (aS.setRow (F':=T) (qG w2 141 (fun _=>si0)));have eC:Hid (Below w2.heap.size w2 ((w2.alloc (.cells (JA fun _=>si0) 141)).setRow w2.heap.size (JA T))):=zh b5 (Nat.le_refl _);clear hT b4 b5 l1;go_wp2_with fail;clear cd;obtain ⟨w5,rB⟩:∃ w5,(w2.alloc (.cells (JA fun _=>si0) 141)).setRow w2.heap.size (JA T)=w5:=⟨_,rfl⟩;rw [rB] at HZ eC ⊢;clear rB;go_loopw [4,5] (fun vn vr wr=>∃ (y:Nat) (z:Int),y <= 16/\vn = .int .i64 z/\vr = .int .i64 y/\Hid (z=szn N y/\Below w5.heap.size w5 wr)) (fun _ i _=>16 - (intOf i).toNat)
 case atStart=>exact ⟨0,0,Nat.zero_le _,rfl,rfl,rfl,Below.refl _ _⟩
 case round =>
  obtain ⟨y,z,tX,rfl,rfl,HI⟩:=hrel
  rename World=>w6
  have y0:(0:Int) <= (y:Int):=by omega
  by_cases hy:y < 16
  ·have y1:(y:Int) < 16:=by omega
   have HF:=hide (HT.out y hy).2.2.1;have m9:=hide ((HT.out y hy).1.below eC);obtain ⟨sa,sn,sc,hf⟩:∃ sa sn sc,(T y).ao=sa/\(T y).n=sn/\(T y).cap=sc:=⟨_,_,_,rfl,rfl,rfl⟩;rw [hf.1,hf.2.1,hf.2.2] at m9;have BB:=hide hf;clear hf
   have BP:Hid (sn=2 * (N y).length):=by have:=m9.1;rw [jt] at this;show _=_;omega
   have Bj:=qT (Int.le_refl _) HF.out
   have tp:sn <= 1000000002:=by have:=BP.out;omega
   have gC:=hide (And.intro (zhX (N:=N) y (fun r hr=>(HT.out r (by omega)).2.2.1)) (zhY HF));go_wp2_with fail;go_loopw [4,6] (fun vn vk wr=>∃ (t kk:Nat) (z:Int),t <= (N y).length/\kk=2 * t/\vn = .int .i64 z/\vk = .int .i64 kk/\Hid (z=szn N y+sz ((N y).take t)/\Below w5.heap.size w5 wr)) (fun _ i _=>sn - (intOf i).toNat)
   case atStart=>exact ⟨0,0,z,Nat.zero_le _,rfl,rfl,rfl,by rw [HI.1];simp [sz],HI.2⟩
   case round =>
    obtain ⟨t,kk,z,ht,oC,rfl,rfl,HI⟩:=hrel
    rename World=>w6
    have pU:=hide oC;clear oC;have c0:=(HZ.below HI.2).cell y hy;rw [BB.1,BB.2.1,BB.2.2] at c0;obtain ⟨k1,lK⟩:∃ k1:Nat,kk+1=k1:=⟨_,rfl⟩
    have Kr:IntKind.i64.wrap ((kk:Int)+1)=(k1:Int):=by have:=pU.out;rw [IntKind.wrap_i64];omega
    by_cases ak:t < (N y).length
    ·have iU:k1 < sn:=by have:=pU.out;have:=BP.out;omega
     have gL:kk < sn:=by omega
     obtain ⟨da,mT,qa⟩:=qy (m9.below HI.2) kk gL;obtain ⟨db,mK,qb⟩:=qy (m9.below HI.2) k1 iU;have uh:db=da:=Option.some.inj (mK.symm.trans mT);rw [uh] at qb;clear mK uh;subst mT;obtain ⟨tl1,tl2⟩:=zio (N y) t ak;rw [<- pU.out] at tl1 tl2;rw [lK] at tl2;rw [tl1] at qa;rw [tl2] at qb;have Di:=zaK HF.out t ak;have D9:=zip (N y) t ak;have Fy:=bV (N y) 1 t HF.out;have Iz:=bV (N y) 1 (t+1) HF.out;obtain ⟨x,Hx⟩:∃ x,Hid ((N y).getD t rn0=x):=⟨_,rfl⟩;rw [Hx.out] at qa qb Di D9;obtain ⟨lo,uj⟩:∃ lo,x.lo=lo:=⟨_,rfl⟩;obtain ⟨h1,Ej⟩:∃ h1,x.hi+1=h1:=⟨_,rfl⟩;rw [uj] at qa;rw [Ej] at qb
     have Ap:0 <= z/\z <= 17000000000/\1 <= lo/\lo < h1/\h1 <= 1000000001:=by have:=gC.out;have:=HI.1;omega
     have N3:Hid (z+(h1 - lo)=szn N y+sz ((N y).take (t+1))):=by show _=_;have:=HI.1;omega
     have E4:=hide HI.2;clear uj Ej db tl1 tl2 Di D9 Fy Iz HI Hx;obtain ⟨cY,dw,OG,OS,OL⟩:=Ap
     have cF:IntKind.i64.wrap (h1 - lo)=h1 - lo:=by rw [IntKind.wrap_i64];omega
     have eH:IntKind.i64.wrap (z+(h1 - lo))=z+(h1 - lo):=by rw [IntKind.wrap_i64];omega
     have r0:=cell_regrown c0;have r1:=cell_regrown qa;have r2:=cell_regrown qb;have tN:=hide lK;clear lK;go_wp2_with fail;refine wp_region_quiet_below (by kernel_rfl) (by kernel_rfl) ?_
     repeat (with_reducible (refine wpQuiet_step ?_);intro K hK;go_simp;(try rw [if_neg (by unfold undef;simp)]);first | (with_reducible (refine hK _ ?_);clear hK K) | (apply Exists.intro;refine ⟨fun _=>?_,hK _ ?_⟩;(fail);clear hK K))
     with_reducible (refine wpQuiet_nil ?_)
     intro w7 hw';obtain ⟨⟨dq,osq⟩,hw''⟩:=hw'
     have bw7:Below w6.heap.size w6 w7:=by rw [hw''];exact below_regrown w6 dq osq
     clear hw'' dq osq r0 r1 r2;go_wp2_with fail;go_roundw
     case rel=>exact ⟨t+1,kk+2,z+(h1 - lo),by omega,by have:=pU.out;omega,by go_num,by go_num,N3.out,E4.trans (bw7.mono E4.size)⟩
     case measure=>(have:=tN.out;simp [intOf];omega)
    ·obtain rfl:t=(N y).length:=by omega
     have iU:¬ (k1:Int) < (sn:Int):=by have:=pU.out;have:=BP.out;omega
     have mL:Hid (z=szn N (y+1)):=by have:=HI.1;rw [List.take_length] at this;exact this
     have E4:=hide HI.2;clear lK HI;go_wp2_with fail;go_roundw
     case rel=>exact ⟨y+1,z,by omega,rfl,by go_num,mL.out,E4.out⟩
     case measure=>simp [intOf];omega
  ·obtain rfl:y=16:=by omega
   have fq:Hid (∃ M:Nat -> List Rn,(∀ r,r < 16 -> aN (aa a.P r) (M r))/\(Ending.returned (.int .i64 z):Ending) = .returned (.int .i64 (szn M 16))/\Below w.heap.size w w6):=⟨N,fun r hr=>(HT.out r hr).2.2,by rw [HI.1],aI.trans ((eC.trans (HI.2.mono eC.size)).mono aI.size)⟩;clear HI;go_wp2_with fail;go_ret;exact fq.out
end
section
open Go.RowKit
attribute [local go_sem ↓] zq zp kW kH
attribute [local go_sem] xH qY zI zi qq zk qL
theorem bU (N:Nat -> List Rn):∀ k,szn N k=fw N k
 | 0=>rfl
 | k+1=>by simp only [szn,fw,bU N k]
theorem xA (a:Pv) (w:World) (hS:am w a):Calls Tryz.prog 133 #[PV a] w fun e w'=>∃ b,e = .returned (.bool b)/\(b=true↔∀ r,r < 16 -> ∀ n,¬ mem (aa a.P r) n)/\Below w.heap.size w w':=by
 have b1:=ze w (.cells (PC a) 26)
 have l1:=zj (zm w a).at
 have al:=hide b1;have HS:=hide (hS.below b1);clear b1 hS;go_enter Tryz.func133,Tryz.ntmps133;go_wp2_with fail;refine (yi a _ HS).mono ?_;rintro e w2 ⟨N,hN,rfl,b2⟩;have hz:gQ (aa a.P) (szn N 16):=⟨N,hN,bU N 16⟩;have fq:Hid (∃ b,(Ending.returned (.bool (szn N 16 == 0)):Ending) = .returned (.bool b)/\(b=true↔∀ r,r < 16 -> ∀ n,¬ mem (aa a.P r) n)/\Below w.heap.size w w2):=⟨_,rfl,by rw [<- hz.zero];simp,al.trans (b2.mono al.size)⟩;clear hz hN b2 l1;generalize szn N 16=z at *;go_wp2_with fail;go_ret;exact fq.out
end
section

theorem xD {a b:Int}:az a b=0↔a=b:=xr.eq a b
theorem zh7:∀ (r:Nat) (x y:List Int),(∀ k,0 <= x.getD k 0) -> (∀ k,0 <= y.getD k 0) -> (∀ k,k < r -> x.getD k 0=y.getD k 0) -> x.getD r 0≠y.getD r 0 -> lex az x y=az (x.getD r 0) (y.getD r 0)
 | r,[],[],_,_,_,h=>by simp at h
 | r,[],b :: t,_,hy,_,h=>by
  have:=hy r;simp only [List.getD_nil] at h ⊢;rw [lex,az,if_pos (by omega)]
 | r,a :: s,[],hx,_,_,h=>by
  have:=hx r;simp only [List.getD_nil] at h ⊢;rw [lex,az,if_neg (by omega),if_pos (by omega)]
 | 0,a :: s,b :: t,_,_,_,h=>by
  simp only [List.getD_cons_zero] at h ⊢;rw [lex,if_neg (fun e=>h (xD.1 e))]
 | r+1,a :: s,b :: t,hx,hy,he,h=>by
  have h0:=he 0 (by omega);simp only [List.getD_cons_zero] at h0;simp only [List.getD_cons_succ] at h ⊢;rw [lex,if_pos (xD.2 h0)];exact zh7 r s t (fun k=>by have:=hx (k+1);rwa [List.getD_cons_succ] at this) (fun k=>by have:=hy (k+1);rwa [List.getD_cons_succ] at this) (fun k hk=>by have:=he (k+1) (by omega);rwa [List.getD_cons_succ,List.getD_cons_succ] at this) h
theorem zdP {f g:Nat -> Int} (h:∀ k,k < 16 -> (V.aR f).getD k 0=(V.aR g).getD k 0):V.aR f=V.aR g:=
 xX fun r hr=>by rw [<- V.kf f r hr,<- V.kf g r hr,h r hr]
theorem bJ {G:Nat -> List Rn} {P:Pst} (h:af G P):∃ f:Nat -> Int,P.vec=V.aR f/\∀ k,0 <= P.vec.getD k 0:=by
 obtain ⟨N,hN,rfl⟩:=h;refine ⟨fun r=>au (N r),rfl,fun k=>?_⟩
 show 0 <= (V.aR (fun r=>au (N r))).getD k 0
 by_cases hk:k < 16
 ·rw [V.kf _ k hk];exact (jY (hN k hk).1).1
 ·have:=V.vT (fun r=>au (N r));rw [List.getD,List.getElem?_eq_none (by rw [V.zV];omega)];simp
theorem ziz {A B:List Sn} {i:Nat} (h:A.take i=B.take i) (h1:i < A.length) (h2:i < B.length) (cr:A.getD i sn0≠B.getD i sn0):lex dr A B=dr (A.getD i sn0) (B.getD i sn0):=by
 rw [jL xP A B i h (by omega) (by omega),List.drop_eq_getElem_cons h1,List.drop_eq_getElem_cons h2]
 have e1:A.getD i sn0=A[i]:=by simp [List.getD,h1]
 have e2:B.getD i sn0=B[i]:=by simp [List.getD,h2]
 rw [e1,e2] at cr;rw [e1,e2,lex,if_neg (fun e=>cr ((xP.eq _ _).1 e))]
theorem zdK {A B:List Sn} {i:Nat} (h:A.take i=B.take i) (h1:i < A.length) (h2:i < B.length) (he:A.getD i sn0=B.getD i sn0):A.take (i+1)=B.take (i+1):=by
 have e1:A.getD i sn0=A[i]:=by simp [List.getD,h1]
 have e2:B.getD i sn0=B[i]:=by simp [List.getD,h2]
 rw [List.take_succ_eq_append_getElem h1,List.take_succ_eq_append_getElem h2,h,<- e1,<- e2,he]
theorem zdh {A B:List Sn} {i:Nat} (h:A.take i=B.take i) (h1:i <= A.length) (h2:i <= B.length) (hi:¬ (i < A.length/\i < B.length)):lex dr A B=az (A.length:Int) (B.length:Int):=by
 rw [jL xP A B i h h1 h2];unfold az;rcases Nat.lt_trichotomy A.length B.length with g | g | g
 ·have:i=A.length:=by omega
  subst this;rw [List.drop_length,List.drop_eq_getElem_cons g,lex,if_pos (by omega)]
 ·have:i=A.length:=by omega
  subst this;rw [List.drop_length,g,List.drop_length,lex,if_neg (by omega),if_neg (by omega)]
 ·have:i=B.length:=by omega
  subst this;rw [List.drop_length,List.drop_eq_getElem_cons g,lex,if_neg (by omega),if_pos (by omega)]
end
end Go.Proofs.YtjffpimfngdggaaGreat
