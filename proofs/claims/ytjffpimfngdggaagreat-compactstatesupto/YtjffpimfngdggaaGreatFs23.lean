/- TUb -/
import Derived.Test.YtjffpimfngdggaaGreatTk
import Derived.Test.YtjffpimfngdggaaGreatFs21
import Derived.Test.YtjffpimfngdggaaGreatFs22
import Derived.Test.YtjffpimfngdggaaGreatFs12
import Derived.Deep.CutRange
set_option maxRecDepth 100000
set_option maxHeartbeats 6400000
namespace Go.Proofs.YtjffpimfngdggaaGreat
open Go.RowKit Go.Maps Go.Sort
def sl1 (v:Value):Sem Value:=Instr.slice 27 v (some (.int .i64 1)) none none
theorem ziQ (v:Value):Instr.slice 27 v (some (.int .i64 1)) none none=sl1 v:=rfl
def tl1 (b o c:Nat):Option Addr:=if c=1 then some ⟨b,o,none⟩ else some ⟨b,o+3,none⟩
theorem zbN (b o n c:Nat) (hn:1 <= n) (hc:n <= c) (w:World):(sl1 (.slice (some ⟨b,o,none⟩) n c)).run Tryz.prog w = .ok (.slice (tl1 b o c) (n - 1) (c - 1)) w:=by
 obtain ⟨i0,hi,hz0,hz1,hz2⟩:=info_parts infoRec;unfold sl1 tl1
 have e1:(0:Int) <= 1/\(1:Int) <= (n:Int):=by omega
 by_cases h:c=1
 ·subst h;simp [Instr.slice,Instr.sliceBounds,Instr.sliceBound,asIntOf,run_underlying Tryz.underlying27,sizeOf,typeInfo,hi,e1.2]
 ·simp [Instr.slice,Instr.sliceBounds,Instr.sliceBound,asIntOf,run_underlying Tryz.underlying27,sizeOf,typeInfo,hi,hz1,e1.2,h,Addr.add]
attribute [local go_sem ↓] zr zq qd zZ ziQ
attribute [local go_sem] zI zU qi
def sln:Value -> Nat
 | .slice _ n _=>n
 | _=>0
structure RcT (w:World) (ao:Option Addr) (n cap:Nat) (L:List Rc):Prop where
 src:RcS w ao n cap L
 room:n <= cap
 nil:ao=none -> cap=0
theorem RcT.below {w w':World} {ao:Option Addr} {n cap:Nat} {L:List Rc} (h:RcT w ao n cap L) (hb:Below w.heap.size w w'):RcT w' ao n cap L:=⟨h.src.below hb,h.room,h.nil⟩
theorem RcT.head {w:World} {ao:Option Addr} {n cap:Nat} {x:Rc} {L:List Rc} (h:RcT w ao n cap (x :: L)):∃ b o,ao=some ⟨b,o,none⟩/\ReAt w ⟨b,o,none⟩ (mkR x)/\1 <= n/\RcOk w x:=by
 have hl:=h.src.len;rw [List.length_cons] at hl
 cases ao with
 | none=>have:=h.src.nil rfl;omega
 | some ad =>
  obtain ⟨b,o,rfl⟩:=h.src.spot (by omega);have A:=h.src.at_ _ rfl 0 (by omega);rw [Addr.add_lit] at A;exact ⟨b,o,rfl,by simpa using A,by omega,h.src.ok x List.mem_cons_self⟩
theorem RcT.tail {w:World} {b o n cap:Nat} {x:Rc} {L:List Rc} (h:RcT w (some ⟨b,o,none⟩) n cap (x :: L)):RcT w (tl1 b o cap) (n - 1) (cap - 1) L:=by
 have hl:=h.src.len;rw [List.length_cons] at hl;have hc:=h.room;have hb:=h.src.big;unfold tl1;by_cases e:cap=1
 ·rw [if_pos e]
  have h0:L.length=0:=by omega
  obtain rfl:=List.eq_nil_of_length_eq_zero h0;exact ⟨⟨by simp;omega,fun h=>(by cases h),fun ad _ t ht=>(by omega),fun r hr=>(by cases hr),by omega⟩,by omega,fun h=>(by cases h)⟩
 ·rw [if_neg e];refine ⟨⟨by omega,fun h=>(by cases h),fun ad he t ht=>?_,fun r hr=>h.src.ok r (List.mem_cons_of_mem _ hr),by omega⟩,by omega,fun h=>(by cases h)⟩;obtain rfl:=Option.some.inj he;have A:=h.src.at_ _ rfl (t+1) (by omega);rw [Addr.add_lit] at A ⊢;rw [show o+3+t * 3=o+(t+1) * 3 by omega];simpa [List.getD] using A
structure UI (w0 wr:World) (L M:List Rc) (N:Nat) (ao:Option Addr) (n ca:Nat) (X:List Rc) (bo:Option Addr) (m cb:Nat) (Y:List Rc) (h:Hs) (D:List Rc):Prop where
 xa:RcT w0 ao n ca X
 yb:RcT w0 bo m cb Y
 own:OwnRc w0.heap.size w0 wr h D
 fr:∀ r∈D,PNew w0.heap.size r.p
 okx:∀ r∈X,RecOk r
 oky:∀ r∈Y,RecOk r
 okd:∀ r∈D,RecOk r
 mg:Mg ck (plR L) (plR M) (plR D) (plR X) (plR Y)
 num:h.n+n+m <= N
theorem zgh (x:Rc) (L:List Rc):plR (x :: L)=rck x :: plR L:=rfl
theorem yi (L:List Rc) (x:Rc):plR (L++[x])=plR L++[rck x]:=by simp [plR,rck]
theorem wE {r c:Rc} (h:RecOk r) (hs:c.s=r.s) (hC:CanonOf (runsAt r.p.P) c.p.P):rck c=rck r:=by
 have e:=(bk hC).2 h.2.1;unfold rck;rw [hs,e]
theorem jg {α : Type} {L:List α} {x : α} {P : α -> Prop} (h:∀ r∈L,P r) (hx:P x):∀ r∈L++[x],P r:=fun r hr=>by
 rcases List.mem_append.1 hr with q | q
 ·exact h r q
 ·obtain rfl:=List.mem_singleton.1 q;exact hx
theorem UI.left {w0 wr wr2:World} {L M:List Rc} {N b o n ca m cb:Nat} {x:Rc} {X:List Rc} {bo:Option Addr} {Y:List Rc} {h h2:Hs} {D:List Rc} {c:Rc} (U:UI w0 wr L M N (some ⟨b,o,none⟩) n ca (x :: X) bo m cb Y h D) (hY:∀ y∈plR Y,ck (rck x) y < 0)
  (hs:c.s=x.s) (hC:CanonOf (runsAt x.p.P) c.p.P) (hP:PNew w0.heap.size c.p) (O:OwnRc w0.heap.size w0 wr2 h2 (D++[c])) (hn:h2.n=h.n+1):UI w0 wr2 L M N (tl1 b o ca) (n - 1) (ca - 1) X bo m cb Y h2 (D++[c]):=by
 have hx:=U.okx x List.mem_cons_self;have e:=wE hx hs hC;have hl:=U.xa.src.len;rw [List.length_cons] at hl;have:=U.num;refine ⟨U.xa.tail,U.yb,O,jg U.fr hP,fun r hr=>U.okx r (List.mem_cons_of_mem _ hr),U.oky,jg U.okd (kQ hx e),?_,by omega⟩;rw [yi,e];exact U.mg.left hY
theorem UI.symm {w0 wr:World} {L M:List Rc} {N n ca m cb:Nat} {ao bo:Option Addr} {X Y:List Rc} {h:Hs} {D:List Rc} (U:UI w0 wr L M N ao n ca X bo m cb Y h D):UI w0 wr L M N bo m cb Y ao n ca X h D:=
 ⟨U.yb,U.xa,U.own,U.fr,U.oky,U.okx,U.okd,U.mg.symm,by have:=U.num;omega⟩
theorem UI.drop {w0 wr wr2:World} {L M:List Rc} {N b o n ca m cb:Nat} {x:Rc} {X:List Rc} {bo:Option Addr} {Y:List Rc} {h:Hs} {D:List Rc} (U:UI w0 wr L M N (some ⟨b,o,none⟩) n ca (x :: X) bo m cb Y h D) (hY:rck x∈plR Y) (hb:Below wr.heap.size wr wr2):UI w0 wr2 L M N (tl1 b o ca) (n - 1) (ca - 1) X bo m cb Y h D:=
 ⟨U.xa.tail,U.yb,U.own.later hb,U.fr,fun r hr=>U.okx r (List.mem_cons_of_mem _ hr),U.oky,U.okd,U.mg.drop hY,by have:=U.num;omega⟩
theorem UI.later {w0 wr wr2:World} {L M:List Rc} {N n ca m cb:Nat} {ao bo:Option Addr} {X Y:List Rc} {h:Hs} {D:List Rc} (U:UI w0 wr L M N ao n ca X bo m cb Y h D) (hb:Below wr.heap.size wr wr2):UI w0 wr2 L M N ao n ca X bo m cb Y h D:=
 ⟨U.xa,U.yb,U.own.later hb,U.fr,U.okx,U.oky,U.okd,U.mg,U.num⟩
def UIv (w0:World) (L M:List Rc) (N:Nat) (a b v:Value) (wr:World):Prop:=∃ (ao:Option Addr) (n ca:Nat) (X:List Rc) (bo:Option Addr) (m cb:Nat) (Y:List Rc) (h:Hs) (D:List Rc),a = .slice ao n ca/\b = .slice bo m cb/\v = .slice h.o h.n h.c/\Hid (UI w0 wr L M N ao n ca X bo m cb Y h D)
theorem UIv.of {w0 wr:World} {L M:List Rc} {N n ca m cb:Nat} {ao bo:Option Addr} {X Y:List Rc} {h:Hs} {D:List Rc} (U:UI w0 wr L M N ao n ca X bo m cb Y h D):UIv w0 L M N (.slice ao n ca) (.slice bo m cb) (.slice h.o h.n h.c) wr:=⟨ao,n,ca,X,bo,m,cb,Y,h,D,rfl,rfl,rfl,U⟩
structure GvR (w w':World) (h:Hs) (F:List Rc):Prop where
 src:RcS w' h.o h.n h.c F
 room:h.n <= h.c
 nil:h.o=none -> h.c=0
 new:∀ ad,h.o=some ad -> w.heap.size <= ad.block
 fresh:∀ r∈F,PNew w.heap.size r.p
 below:Below w.heap.size w w'
theorem GvR.row {w w':World} {h:Hs} {F:List Rc} (g:GvR w w' h F):RcT w' h.o h.n h.c F:=⟨g.src,g.room,g.nil⟩
theorem zbc {B:Nat} {w W:World} {h:Hs} {L:List Rc} (O:OwnRc B w W h L) (hn:h.n <= 2199023255552):RcT W h.o h.n h.c L/\(∀ ad,h.o=some ad -> B <= ad.block)/\Below w.heap.size w W:=by
 refine ⟨⟨O.src hn,?_,?_⟩,?_,O.below⟩
 all_goals
  have hr:=O.own;obtain ⟨ao,n,c⟩:=h;rcases hr.2 with ⟨h0,h00⟩ | ⟨g,cap,cur,hv,hbg,hgg,hnc,hcm,hcsz,htake⟩
  ·simp only [HsV,Value.slice.injEq] at h0;obtain ⟨rfl,rfl,rfl⟩:=h0;simp
  ·simp only [HsV,Value.slice.injEq] at hv;obtain ⟨rfl,-,rfl⟩:=hv
   first
    | exact hnc
    | exact fun ad e=>(by cases e;exact hbg)
    | exact fun e=>(by cases e)
theorem OwnRc.give {w w0 W:World} {h:Hs} {L:List Rc} (O:OwnRc w0.heap.size w0 W h L) (hb:Below w.heap.size w w0) (hf:∀ r∈L,PNew w0.heap.size r.p) (hn:h.n <= 2199023255552):GvR w W h L:=by
 have hsz:=hb.size;obtain ⟨⟨q1,q2,q3⟩,q4,q5⟩:=zbc O hn;exact ⟨q1,q2,q3,fun ad e=>Nat.le_trans hsz (q4 ad e),fun r hr=>⟨fun ad e=>Nat.le_trans hsz ((hf r hr).1 ad e),fun ad e=>Nat.le_trans hsz ((hf r hr).2 ad e)⟩,hb.trans (q5.mono hsz)⟩
def UnA (w w':World) (x:Ending) (L:List Rc) (n:Nat) (M:List Rc) (m:Nat):Prop:=(OkR L n/\OkR M m/\∃ (h:Hs) (F:List Rc),x = .returned (.tuple #[HsV h,.int .i64 0])/\GvR w w' h F/\h.n <= n+m/\UnOf L M F)∨(¬ (OkR L n/\OkR M m)/\x = .returned (.tuple #[.slice none 0 0,.int .i64 1])/\Below w.heap.size w w')
theorem zam (ao bo:Option Addr) (n ca m cb:Nat) (L M:List Rc) (w:World) (hS:RcT w ao n ca L) (hR:RcT w bo m cb M) (hnm:n+m <= 2199023255551) :
  Calls Tryz.prog 124 #[.slice ao n ca,.slice bo m cb] w fun x w'=>UnA w w' x L n M m:=by
 have HS:=hide hS;have HR:=hide hR;have HNM:=hide hnm;clear hS hR hnm;go_enter Tryz.func124,Tryz.ntmps124;go_wp2_with fail;refine (xp ao n ca L _ HS.out.src).mono ?_;rintro x w1 ⟨z,rfl,hz,b1⟩;have HB1:=hide b1;clear b1;rcases hz with ⟨rfl,hO⟩ | ⟨rfl,hO⟩;rotate_left
 ·have HE:Hid (UnA w w1 (.returned (.tuple #[.slice none 0 0,.int .i64 1])) L n M m):=.inr ⟨fun h=>hO h.1,rfl,HB1.out⟩;clear hO;go_wp2_with fail;go_ret2;exact HE.out
 have HO:=hide hO;clear hO;go_wp2_with fail;refine (xp bo m cb M _ (HR.out.src.below HB1.out)).mono ?_;rintro x w0 ⟨z,rfl,hz,b2⟩;have HB0:=wTr HB1 b2;clear b2;rcases hz with ⟨rfl,hP⟩ | ⟨rfl,hP⟩;rotate_left
 ·have HE:Hid (UnA w w0 (.returned (.tuple #[.slice none 0 0,.int .i64 1])) L n M m):=.inr ⟨fun h=>hP h.2,rfl,HB0.out⟩;clear hP;go_wp2_with fail;go_ret2;exact HE.out
 have HO2:Hid (((∀ r∈L,RecOk r)/\Srt ck (plR L))/\(∀ r∈M,RecOk r)/\Srt ck (plR M)):=⟨xH.1 (by rw [HS.out.src.len];exact HO.out),xH.1 (by rw [HR.out.src.len];exact hP)⟩;have HP:=hide hP;have HU0:Hid (UI w0 w0 L M (n+m) ao n ca L bo m cb M hs0 []):=⟨HS.out.below HB0.out,HR.out.below HB0.out,OwnRc.nil w0,fun r hr=>(by cases hr),HO2.out.1.1,HO2.out.2.1,fun r hr=>(by cases hr),Mg.start HO2.out.1.2 HO2.out.2.2,by show 0+n+m <= _;omega⟩;clear hP HB1;obtain ⟨N0,hN0⟩:∃ N0,n+m=N0:=⟨_,rfl⟩;rw [hN0] at HU0 HNM;have HN0:=hide hN0;clear hN0;go_wp2_with fail;go_loopw [0,1,6] (fun a b v wr=>UIv w0 L M N0 a b v wr) (fun a b _ _=>sln a+sln b)
 case atStart=>exact UIv.of HU0.out
 case round =>
  obtain ⟨xo,xn,xc,X,yo,yn,yc,Y,h,D,rfl,rfl,rfl,HU⟩:=hrel
  rename World=>wr
  clear HU0 HO2;have HLX:Hid (X.length=xn):=HU.out.xa.src.len;have HLY:Hid (Y.length=yn):=HU.out.yb.src.len;obtain ⟨bb,Hbb⟩:∃ bb:Bool,Hid (bb=(decide (0 < xn) && decide (0 < yn))):=⟨_,rfl⟩;go_upto_region 4 with fail
  go_cut [25] from 18 to 58 (fun s wx=>s = .bool bb/\wx=wr)
  case first =>
   by_cases h1:0 < xn
   ·have d1:decide (0 < xn)=true:=decide_eq_true h1
    have i1:(0:Int) < (xn:Int):=by omega
    by_cases h2:0 < yn
    ·have d2:decide (0 < yn)=true:=decide_eq_true h2
     have i2:(0:Int) < (yn:Int):=by omega
     obtain rfl:bb=true:=by rw [Hbb.out,d1,d2];rfl
     clear Hbb;go_wp2_with fail;go_meet
     case rel=>exact ⟨rfl,rfl⟩
    ·obtain rfl:yn=0:=by omega
     obtain rfl:bb=false:=by rw [Hbb.out];simp
     clear Hbb;go_wp2_with fail;go_meet
     case rel=>exact ⟨rfl,rfl⟩
   ·obtain rfl:xn=0:=by omega
    obtain rfl:bb=false:=by rw [Hbb.out];simp
    clear Hbb;go_wp2_with fail;go_meet
    case rel=>exact ⟨rfl,rfl⟩
  case rest =>
   obtain ⟨rfl,rfl⟩:=hcut
   rename World=>wr
   cases bb with
   | false =>
    have HZ:Hid (UnK ck (plR L) (plR M) (plR D++plR (X++Y))):=by
     have hb:=Hbb.out;by_cases h1:0 < xn
     ·have h2:¬ 0 < yn:=fun h2=>by rw [decide_eq_true h1,decide_eq_true h2] at hb;cases hb
      obtain rfl:Y=[]:=List.eq_nil_of_length_eq_zero (by have:=HLY.out;omega);rw [List.append_nil];exact HU.out.mg.doneL
     ·obtain rfl:X=[]:=List.eq_nil_of_length_eq_zero (by have:=HLX.out;omega);exact HU.out.mg.doneR
    clear Hbb;have HNum:=hide HU.out.num;have HX0:Hid (∀ r∈X++Y,RcOk w0 r):=fun r hr=>(List.mem_append.1 hr).elim (HU.out.xa.src.ok r) (HU.out.yb.src.ok r);have HXY:Hid (RcT wr xo xn xc X/\RcT wr yo yn yc Y/\(∀ r∈X++Y,RecOk r)/\xn+yn <= 2199023255551):=⟨HU.out.xa.below HU.out.own.below,HU.out.yb.below HU.out.own.below,fun r hr=>(List.mem_append.1 hr).elim (HU.out.okx r) (HU.out.oky r),by have:=HNum.out;have:=HNM.out;omega⟩;obtain ⟨gc,hgc⟩:∃ gc,wr.heap.size=gc:=⟨_,rfl⟩;obtain ⟨w5,hw5⟩:∃ w5,wr.alloc (.cells #[.slice xo xn xc,.slice yo yn yc] 27)=w5:=⟨_,rfl⟩
    have b5:Below wr.heap.size wr w5:=by rw [<- hw5];exact ze wr _
    have c5:w5.cell? ⟨gc,0,none⟩=some (.slice xo xn xc)/\w5.cell? ⟨gc,1,none⟩=some (.slice yo yn yc):=by rw [<- hw5,<- hgc];exact ⟨by simp,by simp⟩
    have HC5:=hide c5;have HU5:=hide (HU.out.later b5);have HX5:=hide (HXY.out.1.below b5);have HY5:=hide (HXY.out.2.1.below b5);clear b5 c5 HU;go_wp2_with fail;clear hw5 hgc;refine (zbq gc xo yo xn xc yn yc X Y _ HX5.out.src HY5.out.src HX5.out.nil HY5.out.nil HC5.out.1 HC5.out.2 (by have:=HXY.out.2.2.2;omega)).mono ?_;rintro e w6 ⟨k6,rfl,hn6,O6⟩;have HR6:Hid (RcS w6 k6.o k6.n k6.c (X++Y)):=O6.src (by have:=HXY.out.2.2.2;omega);have HU6:=hide (HU5.out.later O6.below)
    have HZb0:Hid ((∀ ad,k6.o=some ad -> w5.heap.size <= ad.block/\ad.block < w6.heap.size)/\w5.heap.size <= w6.heap.size/\∀ r∈X++Y,RcOk w0 r):=by
     refine ⟨fun ad e=>O6.own.lt ad.block (by show (Value.slice k6.o k6.n k6.c).ownBlock=_;rw [e];rfl),O6.below.size,HX0.out⟩
    have HOb:Hid (∀ q,(HsV h).ownBlock=some q -> q < w5.heap.size∨w6.heap.size <= q):=fun q hq=>.inl (HU5.out.own.own.lt q hq).2;have HN6:=hide hn6;have HL6:Hid ((X++Y).length=k6.n):=HR6.out.len;clear O6 HU5 HX5 HY5 HC5 hn6;obtain ⟨Z,HZZ⟩:∃ Z,Hid (X++Y=Z):=⟨_,rfl⟩;have HOz:=hide HXY.out.2.2.1;rw [HZZ.out] at HR6 HL6 HZ HOz HZb0;obtain ⟨zo,zn,zc⟩:=k6;rw [show HsV ⟨zo,zn,zc⟩=Value.slice zo zn zc from rfl];have HR6z:Hid (RcS w6 zo zn zc Z):=HR6.out;have HL6z:Hid (Z.length=zn):=HL6.out;have HN6z:Hid (zn=xn+yn):=HN6.out;have HZb:Hid ((∀ ad,zo=some ad -> w5.heap.size <= ad.block/\ad.block < w6.heap.size)/\w5.heap.size <= w6.heap.size/\∀ r∈Z,RcOk w0 r):=HZb0.out;clear HR6 HL6 HN6 HZb0;go_wp2_with fail;have HZ6:Hid ((∀ ad,zo=some ad -> w5.heap.size <= ad.block/\ad.block < w6.heap.size)/\w5.heap.size <= w6.heap.size/\∀ r∈Z,RcOk w0 r):=HZb.out
    go_loopw [6,64] (fun v i wx=>∃ (k:Nat) (h2:Hs) (D2:List Rc),k <= zn/\v = .slice h2.o h2.n h2.c/\i = .int .i64 (k:Int)/\Hid (OwnRc w0.heap.size w0 wx h2 D2/\(∀ ad,zo=some ad -> wx.heap[ad.block]? = w6.heap[ad.block]?)/\(∀ q,(HsV h2).ownBlock=some q -> q < w5.heap.size∨w6.heap.size <= q)/\w6.heap.size <= wx.heap.size/\(∀ r∈D2,PNew w0.heap.size r.p)/\(∀ r∈D2,RecOk r)/\plR D2=plR D++plR (Z.take k)/\h2.n=h.n+k)) (fun _ i _=>zn - (intOf i).toNat)
    case atStart=>exact ⟨0,h,D,Nat.zero_le _,rfl,rfl,HU6.out.own,fun _ _=>rfl,HOb.out,Nat.le_refl _,HU6.out.fr,HU6.out.okd,by simp [plR],rfl⟩
    case round =>
     obtain ⟨k,h2,D2,hk,rfl,rfl,HI⟩:=hrel
     rename World=>wx
     have HRx:=hide (zhy HR6z.out HI.out.2.1 (fun r hr=>(HZ6.out.2.2 r hr).below HI.out.1.below));by_cases hlt:k < zn
     ·have hlti:(k:Int) < (zn:Int):=by omega
      have hzb:zn <= 2199023255551:=by have:=HN6z.out;have:=HXY.out.2.2.2;omega
      obtain ⟨ad,hao,A0⟩:=HRx.out.at k hlt;have hOk:=HRx.out.okAt k hlt;have HT:Hid (plR (Z.take (k+1))=plR (Z.take k)++[rck (Z.getD k rc0)]/\RecOk (Z.getD k rc0)):=⟨kS Z k (by rw [HL6z.out];exact hlt),HOz.out _ (jm (by rw [HL6z.out];exact hlt))⟩;obtain ⟨q,Hq⟩:∃ q,Hid (Z.getD k rc0=q):=⟨_,rfl⟩;rw [Hq.out] at A0 hOk HT;have Hao:=hide hao;subst hao;have hld:=zz A0;obtain ⟨g7,hg7⟩:∃ g7,wx.heap.size=g7:=⟨_,rfl⟩;obtain ⟨w7,hst,X7,B7,S7⟩:=madeRe wx (mkR q) g7 hg7;have HO7:=hide (HI.out.1.later B7);have HB7:=hide B7;have HX7:=hide X7;have HQ7:=hide (hOk.below B7);have l7:=qH X7;have Hlt:=hide hlt;clear A0 X7 B7 S7 hOk hlt hk;go_wp2_with fail;clear hst hld hg7 l7;refine (kc q _ HQ7.out).mono ?_;rintro e wa ⟨c,rfl,hcs,Rc1,Nc,ba,Cc⟩;have Oa:=HO7.out.later ba;have hfar:FarH h2 c.p:=fun j hj=>PFar.new Nc (HO7.out.own.lt j hj).2
      obtain ⟨gb,cb2,wb,hab,Ob,hkb,hgb,hsb⟩:=Oa.appAt c Rc1 hfar (by have:=HI.out.2.2.2.2.2.2.2;have:=HNum.out;have:=HNM.out;have:=HN6z.out;have:=Hlt.out;omega);have HAb:Hid ((Builtin.append_ #[27,27] 27 #[.slice h2.o h2.n h2.c,.slice (some ⟨wa.heap.size,0,none⟩) 1 1]).run Tryz.prog (wa.alloc (.cells #[.string c.s,.slice c.p.vo c.p.vn c.p.vc,.slice c.p.co c.p.cn c.p.cc] 78)) = .ok (.slice (some ⟨gb,0,none⟩) (h2.n+1) cb2) wb):=hab
      have HN:Hid (OwnRc w0.heap.size w0 wb ⟨some ⟨gb,0,none⟩,h2.n+1,cb2⟩ (D2++[c])/\(∀ ad2,some ad=some ad2 -> wb.heap[ad2.block]? = w6.heap[ad2.block]?)/\(∀ q,(HsV ⟨some ⟨gb,0,none⟩,h2.n+1,cb2⟩).ownBlock=some q -> q < w5.heap.size∨w6.heap.size <= q)/\w6.heap.size <= wb.heap.size/\(∀ r∈D2++[c],PNew w0.heap.size r.p)/\(∀ r∈D2++[c],RecOk r)/\plR (D2++[c])=plR D++plR (Z.take (k+1))/\h2.n+1=h.n+(k+1)):=by
       have e:=wE HT.out.2 hcs Cc;have s7:=HB7.out.size;have sa:=ba.size;have s6:=HI.out.2.2.2.1;refine ⟨Ob,fun ad2 e2=>?_,fun q2 hq2=>?_,?_,jg HI.out.2.2.2.2.1 (Nc.mono (by have:=HO7.out.below.size;exact this)),jg HI.out.2.2.2.2.2.1 (kQ HT.out.2 e),?_,by have:=HI.out.2.2.2.2.2.2.2;omega⟩
       ·obtain rfl:=Option.some.inj e2;have hz6:=HZ6.out.1 ad rfl;rw [hkb ad.block (by omega) (fun e3=>by have:=HI.out.2.2.1 _ e3;omega),ba.block ad.block (by omega),HB7.out.block ad.block (by omega)];exact HI.out.2.1 ad rfl
       ·have e4:gb=q2:=Option.some.inj hq2;subst e4;rcases hgb with hgb | hgb
        ·exact HI.out.2.2.1 _ hgb
        ·exact .inr (by omega)
       ·have hh:wa.heap.size <= wb.heap.size:=hsb;omega
       ·rw [yi,e,HI.out.2.2.2.2.2.2.1,HT.out.1,List.append_assoc]
      clear hab Ob Oa hfar hcs Rc1 Nc ba Cc hkb hgb hsb HRx;go_wp2_with (at_builtin;refine xK rfl (.tmp 68) (.tmp 71) rfl rfl rfl HAb.out ?_);go_roundw
      case rel=>exact ⟨k+1,⟨some ⟨gb,0,none⟩,h2.n+1,cb2⟩,D2++[c],Hlt.out,rfl,by simp,HN.out⟩
      case measure=>simp [intOf];have:=Hlt.out;omega
     ·obtain rfl:k=zn:=by omega
      have hlti:¬ (k:Int) < (k:Int):=by omega
      have HE:Hid (UnA w wx (.returned (.tuple #[.slice h2.o h2.n h2.c,.int .i64 0])) L n M m):=by
       obtain ⟨q1,q2,q3,q3b,q3c,q4,q5,q6⟩:=HI.out;rw [List.take_of_length_le (by have:=HL6z.out;omega)] at q5;exact .inl ⟨HO.out,HP.out,h2,D2,rfl,q1.give HB0.out q3c (by have:=HNum.out;have:=HNM.out;have:=HN6z.out;omega),by rw [HN0.out];have:=HNum.out;have:=HN6z.out;omega,by rw [q5];exact HZ.out,q4⟩
      clear HI HRx;go_wp2_with fail;go_ret2;exact HE.out
   | true =>
    obtain ⟨hx0,hy0⟩:0 < xn/\0 < yn:=by
     have hb:=Hbb.out.symm;rw [Bool.and_eq_true,decide_eq_true_eq,decide_eq_true_eq] at hb;exact hb
    clear Hbb
    obtain ⟨x,X',rfl⟩:∃ x X',X=x :: X':=by
     cases X with
     | nil=>have:=HLX.out;simp at this;omega
     | cons x X'=>exact ⟨x,X',rfl⟩
    obtain ⟨y,Y',rfl⟩:∃ y Y',Y=y :: Y':=by
     cases Y with
     | nil=>have:=HLY.out;simp at this;omega
     | cons y Y'=>exact ⟨y,Y',rfl⟩
    obtain ⟨bx,ox,rfl,Ax,hx1,Kx⟩:=HU.out.xa.head;obtain ⟨by_,oy,rfl,Ay,hy1,Ky⟩:=HU.out.yb.head;have B0:=HU.out.own.below;have HA0x:=hide Ax;have HA0y:=hide Ay;have HAx:=hide (Ax.on B0);have HAy:=hide (Ay.on B0);have HKx:=hide (Kx.below B0);have HKy:=hide (Ky.below B0);have HXc:Hid (1 <= xn/\xn <= xc/\1 <= yn/\yn <= yc):=⟨hx1,HU.out.xa.room,hy1,HU.out.yb.room⟩;clear Ax Ay Kx Ky B0 hx1 hy1;go_upto_region 5 with fail
    have i1:(0:Int) < (xn:Int):=by omega
    have i2:(0:Int) < (yn:Int):=by omega
    refine wp_region_held_drew (S:=fun v=>(ldRe (.pointer (some ⟨bx,ox,none⟩))).run Tryz.prog v = .ok (.agg (ReC (mkR x))) v/\(ldRe (.pointer (some ⟨by_,oy,none⟩))).run Tryz.prog v = .ok (.agg (ReC (mkR y))) v) (by kernel_rfl) (⟨zz (HAx.out.on (zf wr)),zz (HAy.out.on (zf wr))⟩) (fun hHeld=>?_);refine wU 0 ?_;refine wU 1 ?_;refine wU 2 ?_;refine wU 3 ?_;refine wU 4 ?_;refine wU 5 ?_;refine wpAnyH_ready (rs:=[6]) (by kernel_rfl) (by simp) (.cons rfl (fun K hK=>?_) .nil);go_simp;go_wp2_with fail;refine (x6 x y _ (HKx.out.below (zf wr)) (HKy.out.below (zf wr))).mono ?_;rintro e w4 ⟨z,rfl,hz,b4⟩;have hB4:Below wr.heap.size wr w4:=(zf wr).trans b4;have HB4:=hide hB4;refine hK.out _ _ (⟨zz (HAx.out.on (hB4)),zz (HAy.out.on (hB4))⟩) (fun hHeld=>?_);clear hK K b4 hB4;refine wU 7 ?_
    refine wpAnyH_done (by kernel_rfl) ?_ _;clear hHeld;have HZc:Hid (z=ck (rck x) (rck y)):=zcf (HU.out.okx x List.mem_cons_self).2.1 (HU.out.oky y List.mem_cons_self).2.1 hz;clear hz i1 i2;have HU4:=hide (HU.out.later HB4.out);have HA4:=hide (HAx.out.on HB4.out);have HA4y:=hide (HAy.out.on HB4.out);have HK4:=hide (HKx.out.below HB4.out);have HK4y:=hide (HKy.out.below HB4.out);clear HU HAx HAy HKx HKy HB4;by_cases hz0:z < 0
    ·skip
     go_upto_region 8 with fail
     have i1:(0:Int) < (xn:Int):=by have:=HXc.out;omega
     have hsl:∀ W:World,(sl1 (.slice (some ⟨bx,ox,none⟩) xn xc)).run Tryz.prog W = .ok (.slice (tl1 bx ox xc) (xn - 1) (xc - 1)) W:=fun W=>zbN bx ox xn xc (by have:=HXc.out;omega) (by have:=HXc.out;omega) W;refine wp_region_held_drew (S:=fun v=>(ldRe (.pointer (some ⟨bx,ox,none⟩))).run Tryz.prog v = .ok (.agg (ReC (mkR x))) v) (by kernel_rfl) (zz (HA4.out.on (zf w4))) (fun hHeld=>?_);refine wU 0 ?_;refine wU 1 ?_;refine wU 2 ?_;refine wU 3 ?_;refine wU 7 ?_;refine wU 8 ?_;refine wpAnyH_ready (rs:=[4]) (by kernel_rfl) (by simp) (.cons rfl (fun K hK=>?_) .nil);go_simp;go_wp2_with fail;refine (kc x _ (HK4.out.below (zf w4))).mono ?_;rintro e wa ⟨c,rfl,hcs,Rc1,Nc,ba,Cc⟩;have hBa:Below w4.heap.size w4 wa:=(zf w4).trans ba;have hA1:=HA4.out.on hBa;have hlt1:bx < w4.heap.size:=World.block_lt_of_cell? _ _ HA4.out.c0
     have Oa:=HU4.out.own.later hBa;have hfar:FarH h c.p:=fun j hj=>PFar.new Nc (HU4.out.own.own.lt j hj).2;obtain ⟨gb,cb2,wb,hab,Ob,hkb⟩:=Oa.app c Rc1 hfar (by have:=HU4.out.num;have:=HNM.out;have:=HXc.out;omega)
     have hne:(HsV h).ownBlock≠some bx:=fun e=>by
      have h1:=(HU4.out.own.own.lt bx e).1;have h2:bx < w0.heap.size:=World.block_lt_of_cell? _ _ HA0x.out.c0;omega
     have hA2:ReAt wb ⟨bx,ox,none⟩ (mkR x):=by
      have hk:=hkb bx (Nat.lt_of_lt_of_le hlt1 hBa.size) hne
      have hc:∀ a:Addr,a.block=bx -> wb.cell? a=wa.cell? a:=fun a e=>by unfold World.cell?;rw [e,hk]
      exact ⟨by rw [hc _ rfl];exact hA1.c0,by rw [hc _ rfl];exact hA1.c1,by rw [hc _ rfl];exact hA1.c2⟩
     have HAb:Hid ((Builtin.append_ #[27,27] 27 #[.slice h.o h.n h.c,.slice (some ⟨wa.heap.size,0,none⟩) 1 1]).run Tryz.prog (wa.alloc (.cells #[.string c.s,.slice c.p.vo c.p.vn c.p.vc,.slice c.p.co c.p.cn c.p.cc] 78)) = .ok (.slice (some ⟨gb,0,none⟩) (h.n+1) cb2) wb):=hab;have HN:=hide (HU4.out.left (zcB jv HU4.out.mg.sb (show ck (rck x) (rck y) < 0 by rw [<- HZc.out];exact hz0)) hcs Cc (Nc.mono (by have:=HU4.out.own.below.size;exact this)) Ob rfl);have HS1:Hid ((ldRe (.pointer (some ⟨bx,ox,none⟩))).run Tryz.prog (wa.alloc (.cells #[.string c.s,.slice c.p.vo c.p.vn c.p.vc,.slice c.p.co c.p.cn c.p.cc] 78)) = .ok (.agg (ReC (mkR x))) (wa.alloc (.cells #[.string c.s,.slice c.p.vo c.p.vn c.p.vc,.slice c.p.co c.p.cn c.p.cc] 78))):=zz (hA1.on (ze wa _));have HS2:=hide (zz hA2);refine hK.out _ _ (zz hA1) (fun hHeld=>?_);clear hK K hab Ob Oa hfar hcs Rc1 Nc ba Cc hBa hA1 hlt1 hkb hne hA2
     refine wpAnyH_ready (rs:=[5]) (by kernel_rfl) (by simp) (.cons rfl (fun K hK=>?_) .nil);go_simp;refine hK.out _ _ HS1.out (fun hHeld=>?_);clear hK K;refine wpAnyH_ready (rs:=[6]) (by kernel_rfl) (by simp) (.cons rfl (fun K hK=>?_) .nil);refine xB (by rfl) (.tmp 38) (.tmp 43) (by rfl) (by rfl) (by rfl) HAb.out ?_;refine hK.out _ _ HS2.out (fun hHeld=>?_);clear hK K;refine wpAnyH_ready (rs:=[9]) (by kernel_rfl) (by simp) (.cons rfl (fun K hK=>?_) .nil);go_simp;refine hK.out _ _ HS2.out (fun hHeld=>?_);clear hK K;refine wpAnyH_ready (rs:=[10]) (by kernel_rfl) (by simp) (.cons rfl (fun K hK=>?_) .nil);go_simp;refine hK.out _ _ HS2.out (fun hHeld=>?_);clear hK K;refine wpAnyH_done (by kernel_rfl) ?_ _;clear hHeld;clear hsl;go_wp2_with fail;go_roundw
     case rel=>exact UIv.of HN.out
     case measure=>simp [sln];have:=HXc.out;omega
    ·by_cases hz1:0 < z
     ·skip
      go_upto_region 10 with fail
      have i1:(0:Int) < (yn:Int):=by have:=HXc.out;omega
      have hsl:∀ W:World,(sl1 (.slice (some ⟨by_,oy,none⟩) yn yc)).run Tryz.prog W = .ok (.slice (tl1 by_ oy yc) (yn - 1) (yc - 1)) W:=fun W=>zbN by_ oy yn yc (by have:=HXc.out;omega) (by have:=HXc.out;omega) W;refine wp_region_held_drew (S:=fun v=>(ldRe (.pointer (some ⟨by_,oy,none⟩))).run Tryz.prog v = .ok (.agg (ReC (mkR y))) v) (by kernel_rfl) (zz (HA4y.out.on (zf w4))) (fun hHeld=>?_);refine wU 0 ?_;refine wU 1 ?_;refine wU 2 ?_;refine wU 3 ?_;refine wU 7 ?_;refine wU 8 ?_;refine wpAnyH_ready (rs:=[4]) (by kernel_rfl) (by simp) (.cons rfl (fun K hK=>?_) .nil);go_simp;go_wp2_with fail;refine (kc y _ (HK4y.out.below (zf w4))).mono ?_;rintro e wa ⟨c,rfl,hcs,Rc1,Nc,ba,Cc⟩;have hBa:Below w4.heap.size w4 wa:=(zf w4).trans ba;have hA1:=HA4y.out.on hBa;have hlt1:by_ < w4.heap.size:=World.block_lt_of_cell? _ _ HA4y.out.c0
      have Oa:=HU4.out.own.later hBa;have hfar:FarH h c.p:=fun j hj=>PFar.new Nc (HU4.out.own.own.lt j hj).2;obtain ⟨gb,cb2,wb,hab,Ob,hkb⟩:=Oa.app c Rc1 hfar (by have:=HU4.out.num;have:=HNM.out;have:=HXc.out;omega)
      have hne:(HsV h).ownBlock≠some by_:=fun e=>by
       have h1:=(HU4.out.own.own.lt by_ e).1;have h2:by_ < w0.heap.size:=World.block_lt_of_cell? _ _ HA0y.out.c0;omega
      have hA2:ReAt wb ⟨by_,oy,none⟩ (mkR y):=by
       have hk:=hkb by_ (Nat.lt_of_lt_of_le hlt1 hBa.size) hne
       have hc:∀ a:Addr,a.block=by_ -> wb.cell? a=wa.cell? a:=fun a e=>by unfold World.cell?;rw [e,hk]
       exact ⟨by rw [hc _ rfl];exact hA1.c0,by rw [hc _ rfl];exact hA1.c1,by rw [hc _ rfl];exact hA1.c2⟩
      have HAb:Hid ((Builtin.append_ #[27,27] 27 #[.slice h.o h.n h.c,.slice (some ⟨wa.heap.size,0,none⟩) 1 1]).run Tryz.prog (wa.alloc (.cells #[.string c.s,.slice c.p.vo c.p.vn c.p.vc,.slice c.p.co c.p.cn c.p.cc] 78)) = .ok (.slice (some ⟨gb,0,none⟩) (h.n+1) cb2) wb):=hab;have HN:=hide ((HU4.out.symm.left (zcB jv HU4.out.mg.sa (show ck (rck y) (rck x) < 0 by have h1:=HZc.out;have h2:=jv.neg (rck x) (rck y);omega)) hcs Cc (Nc.mono (by have:=HU4.out.own.below.size;exact this)) Ob rfl).symm);have HS1:Hid ((ldRe (.pointer (some ⟨by_,oy,none⟩))).run Tryz.prog (wa.alloc (.cells #[.string c.s,.slice c.p.vo c.p.vn c.p.vc,.slice c.p.co c.p.cn c.p.cc] 78)) = .ok (.agg (ReC (mkR y))) (wa.alloc (.cells #[.string c.s,.slice c.p.vo c.p.vn c.p.vc,.slice c.p.co c.p.cn c.p.cc] 78))):=zz (hA1.on (ze wa _));have HS2:=hide (zz hA2);refine hK.out _ _ (zz hA1) (fun hHeld=>?_)
      clear hK K hab Ob Oa hfar hcs Rc1 Nc ba Cc hBa hA1 hlt1 hkb hne hA2;refine wpAnyH_ready (rs:=[5]) (by kernel_rfl) (by simp) (.cons rfl (fun K hK=>?_) .nil);go_simp;refine hK.out _ _ HS1.out (fun hHeld=>?_);clear hK K;refine wpAnyH_ready (rs:=[6]) (by kernel_rfl) (by simp) (.cons rfl (fun K hK=>?_) .nil);refine xB (by rfl) (.tmp 50) (.tmp 55) (by rfl) (by rfl) (by rfl) HAb.out ?_;refine hK.out _ _ HS2.out (fun hHeld=>?_);clear hK K;refine wpAnyH_ready (rs:=[9]) (by kernel_rfl) (by simp) (.cons rfl (fun K hK=>?_) .nil);go_simp;refine hK.out _ _ HS2.out (fun hHeld=>?_);clear hK K;refine wpAnyH_ready (rs:=[10]) (by kernel_rfl) (by simp) (.cons rfl (fun K hK=>?_) .nil);go_simp;refine hK.out _ _ HS2.out (fun hHeld=>?_);clear hK K;refine wpAnyH_done (by kernel_rfl) ?_ _;clear hHeld;clear hsl;go_wp2_with fail;go_roundw
      case rel=>exact UIv.of HN.out
      case measure=>simp [sln];have:=HXc.out;omega
     ·obtain rfl:z=0:=by omega
      clear hz0 hz1;have HN:=hide (HU4.out.drop (by rw [zgh,<- (jv.eq (rck x) (rck y)).1 (by rw [<- HZc.out])];exact List.mem_cons_self) (Below.refl _ _));have hsl:∀ W:World,(sl1 (.slice (some ⟨bx,ox,none⟩) xn xc)).run Tryz.prog W = .ok (.slice (tl1 bx ox xc) (xn - 1) (xc - 1)) W:=fun W=>zbN bx ox xn xc HXc.out.1 HXc.out.2.1 W;go_wp2_with fail;go_roundw
      case rel=>exact UIv.of HN.out
      case measure=>simp [sln];have:=HXc.out;omega
end Go.Proofs.YtjffpimfngdggaaGreat
