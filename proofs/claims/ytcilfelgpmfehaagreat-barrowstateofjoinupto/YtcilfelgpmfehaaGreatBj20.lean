/- TUb -/
import Derived.Test.YtcilfelgpmfehaaGreatBj19
import Derived.Test.YtcilfelgpmfehaaGreatBj08
import Derived.Deep.CutRange
set_option maxRecDepth 100000
set_option maxHeartbeats 6400000
namespace Go.Proofs.YtcilfelgpmfehaaGreat
open Go.RowKit Go.Maps Go.Sort
def sl1 (v:Value):Sem Value:=Instr.slice 27 v (some (.int .i64 1)) none none
theorem zgw (v:Value):Instr.slice 27 v (some (.int .i64 1)) none none=sl1 v:=rfl
def tl1 (b o c:Nat):Option Addr:=if c=1 then some ⟨b,o,none⟩ else some ⟨b,o+3,none⟩
theorem zaE (b o n c:Nat) (hn:1 <= n) (hc:n <= c) (w:World):(sl1 (.slice (some ⟨b,o,none⟩) n c)).run Tryz.prog w = .ok (.slice (tl1 b o c) (n - 1) (c - 1)) w:=by
 obtain ⟨i0,hi,dn,dm,ef⟩:=info_parts fG;unfold sl1 tl1
 have e1:(0:Int) <= 1/\(1:Int) <= (n:Int):=by omega
 by_cases h:c=1
 ·subst h;simp [Instr.slice,Instr.sliceBounds,Instr.sliceBound,asIntOf,run_underlying Tryz.underlying27,sizeOf,typeInfo,hi,e1.2]
 ·simp [Instr.slice,Instr.sliceBounds,Instr.sliceBound,asIntOf,run_underlying Tryz.underlying27,sizeOf,typeInfo,hi,dm,e1.2,h,Addr.add]
attribute [local go_sem ↓] zl zk zR zQ zgw
attribute [local go_sem] zy zH zT
def sln:Value -> Nat
 | .slice _ n _=>n
 | _=>0
structure RcT (w:World) (ao:Option Addr) (n cap:Nat) (L:List Rc):Prop where
 src:RcS w ao n cap L
 room:n <= cap
 nil:ao=none -> cap=0
theorem RcT.below {w w':World} {ao:Option Addr} {n cap:Nat} {L:List Rc} (h:RcT w ao n cap L) (hb:Below w.heap.size w w'):RcT w' ao n cap L:=⟨h.src.below hb,h.room,h.nil⟩
theorem RcT.head {w:World} {ao:Option Addr} {n cap:Nat} {x:Rc} {L:List Rc} (h:RcT w ao n cap (x :: L)):∃ b o,ao=some ⟨b,o,none⟩/\gQ w ⟨b,o,none⟩ (mkR x)/\1 <= n/\dp w x:=by
 have hl:=h.src.len;rw [List.length_cons] at hl
 cases ao with
 | none=>have:=h.src.nil rfl;omega
 | some ad =>
  obtain ⟨b,o,rfl⟩:=h.src.spot (by omega);have A:=h.src.at_ _ rfl 0 (by omega);rw [Addr.add_lit] at A;exact ⟨b,o,rfl,by simpa using A,by omega,h.src.ok x List.mem_cons_self⟩
theorem RcT.tail {w:World} {b o n cap:Nat} {x:Rc} {L:List Rc} (h:RcT w (some ⟨b,o,none⟩) n cap (x :: L)):RcT w (tl1 b o cap) (n - 1) (cap - 1) L:=by
 have hl:=h.src.len;rw [List.length_cons] at hl;have hc:=h.room;have hb:=h.src.big;unfold tl1;by_cases e:cap=1
 ·rw [if_pos e]
  have h0:L.length=0:=by omega
  obtain rfl:=List.eq_nil_of_length_eq_zero h0;exact ⟨⟨by simp;omega,fun h=>(by cases h),fun ad _ t ht=>(by omega),fun r hr=>(by cases hr),by omega⟩,by omega,fun h=>(by cases h)⟩
 ·rw [if_neg e];refine ⟨⟨by omega,fun h=>(by cases h),fun ad he t ht=>?_,fun r hr=>h.src.ok r (List.mem_cons_of_mem _ hr),by omega⟩,by omega,fun h=>(by cases h)⟩;obtain rfl:=Option.some.inj he;have A:=h.src.at_ _ rfl (t+1) (by omega);rw [Addr.add_lit] at A ⊢;rw [show o+3+t * 3=o+(t+1) * 3 by omega];simpa [List.getD] using A
structure UI (w0 wr:World) (L M:List Rc) (N:Nat) (ao:Option Addr) (n ca:Nat) (X:List Rc) (bo:Option Addr) (m cb:Nat) (Y:List Rc) (h:Hs) (D:List Rc):Prop where
 xa:RcT w0 ao n ca X
 yb:RcT w0 bo m cb Y
 own:aL w0.heap.size w0 wr h D
 fr:∀ r∈D,de w0.heap.size r.p
 okx:∀ r∈X,aM r
 oky:∀ r∈Y,aM r
 okd:∀ r∈D,aM r
 mg:Mg ck (plR L) (plR M) (plR D) (plR X) (plR Y)
 num:h.n+n+m <= N
theorem zei (x:Rc) (L:List Rc):plR (x :: L)=rck x :: plR L:=rfl
theorem zbn (L:List Rc) (x:Rc):plR (L++[x])=plR L++[rck x]:=by simp [plR,rck]
theorem y4 {r c:Rc} (h:aM r) (hs:c.s=r.s) (hC:ae (aa r.p.P) c.p.P):rck c=rck r:=by
 have e:=(zcp hC).2 h.2.1;unfold rck;rw [hs,e]
theorem jM {α : Type} {L:List α} {x : α} {P : α -> Prop} (h:∀ r∈L,P r) (hx:P x):∀ r∈L++[x],P r:=fun r hr=>by
 rcases List.mem_append.1 hr with q | q
 ·exact h r q
 ·obtain rfl:=List.mem_singleton.1 q;exact hx
theorem UI.left {w0 wr wr2:World} {L M:List Rc} {N b o n ca m cb:Nat} {x:Rc} {X:List Rc} {bo:Option Addr} {Y:List Rc} {h h2:Hs} {D:List Rc} {c:Rc} (U:UI w0 wr L M N (some ⟨b,o,none⟩) n ca (x :: X) bo m cb Y h D) (hY:∀ y∈plR Y,ck (rck x) y < 0)
  (hs:c.s=x.s) (hC:ae (aa x.p.P) c.p.P) (hP:de w0.heap.size c.p) (O:aL w0.heap.size w0 wr2 h2 (D++[c])) (hn:h2.n=h.n+1):UI w0 wr2 L M N (tl1 b o ca) (n - 1) (ca - 1) X bo m cb Y h2 (D++[c]):=by
 have hx:=U.okx x List.mem_cons_self;have e:=y4 hx hs hC;have hl:=U.xa.src.len;rw [List.length_cons] at hl;have:=U.num;refine ⟨U.xa.tail,U.yb,O,jM U.fr hP,fun r hr=>U.okx r (List.mem_cons_of_mem _ hr),U.oky,jM U.okd (vP hx e),?_,by omega⟩;rw [zbn,e];exact U.mg.left hY
theorem UI.symm {w0 wr:World} {L M:List Rc} {N n ca m cb:Nat} {ao bo:Option Addr} {X Y:List Rc} {h:Hs} {D:List Rc} (U:UI w0 wr L M N ao n ca X bo m cb Y h D):UI w0 wr L M N bo m cb Y ao n ca X h D:=
 ⟨U.yb,U.xa,U.own,U.fr,U.oky,U.okx,U.okd,U.mg.symm,by have:=U.num;omega⟩
theorem UI.drop {w0 wr wr2:World} {L M:List Rc} {N b o n ca m cb:Nat} {x:Rc} {X:List Rc} {bo:Option Addr} {Y:List Rc} {h:Hs} {D:List Rc} (U:UI w0 wr L M N (some ⟨b,o,none⟩) n ca (x :: X) bo m cb Y h D) (hY:rck x∈plR Y) (hb:Below wr.heap.size wr wr2):UI w0 wr2 L M N (tl1 b o ca) (n - 1) (ca - 1) X bo m cb Y h D:=
 ⟨U.xa.tail,U.yb,U.own.later hb,U.fr,fun r hr=>U.okx r (List.mem_cons_of_mem _ hr),U.oky,U.okd,U.mg.drop hY,by have:=U.num;omega⟩
theorem UI.later {w0 wr wr2:World} {L M:List Rc} {N n ca m cb:Nat} {ao bo:Option Addr} {X Y:List Rc} {h:Hs} {D:List Rc} (U:UI w0 wr L M N ao n ca X bo m cb Y h D) (hb:Below wr.heap.size wr wr2):UI w0 wr2 L M N ao n ca X bo m cb Y h D:=
 ⟨U.xa,U.yb,U.own.later hb,U.fr,U.okx,U.oky,U.okd,U.mg,U.num⟩
def UIv (w0:World) (L M:List Rc) (N:Nat) (a b v:Value) (wr:World):Prop:=∃ (ao:Option Addr) (n ca:Nat) (X:List Rc) (bo:Option Addr) (m cb:Nat) (Y:List Rc) (h:Hs) (D:List Rc),a = .slice ao n ca/\b = .slice bo m cb/\v = .slice h.o h.n h.c/\Hid (UI w0 wr L M N ao n ca X bo m cb Y h D)
theorem UIv.of {w0 wr:World} {L M:List Rc} {N n ca m cb:Nat} {ao bo:Option Addr} {X Y:List Rc} {h:Hs} {D:List Rc} (U:UI w0 wr L M N ao n ca X bo m cb Y h D):UIv w0 L M N (.slice ao n ca) (.slice bo m cb) (.slice h.o h.n h.c) wr:=⟨ao,n,ca,X,bo,m,cb,Y,h,D,rfl,rfl,rfl,U⟩
structure GvR (w w':World) (h:Hs) (F:List Rc):Prop where
 src:RcS w' h.o h.n h.c F
 room:h.n <= h.c
 nil:h.o=none -> h.c=0
 new:∀ ad,h.o=some ad -> w.heap.size <= ad.block
 fresh:∀ r∈F,de w.heap.size r.p
 below:Below w.heap.size w w'
theorem GvR.row {w w':World} {h:Hs} {F:List Rc} (g:GvR w w' h F):RcT w' h.o h.n h.c F:=⟨g.src,g.room,g.nil⟩
theorem bX {B:Nat} {w W:World} {h:Hs} {L:List Rc} (O:aL B w W h L) (hn:h.n <= 2199023255552):RcT W h.o h.n h.c L/\(∀ ad,h.o=some ad -> B <= ad.block)/\Below w.heap.size w W:=by
 refine ⟨⟨O.src hn,?_,?_⟩,?_,O.below⟩
 all_goals
  have hr:=O.own;obtain ⟨ao,n,c⟩:=h;rcases hr.2 with ⟨h0,eU⟩ | ⟨g,cap,cur,hv,dV,dB,hnc,fw,hcsz,htake⟩
  ·simp only [HsV,Value.slice.injEq] at h0;obtain ⟨rfl,rfl,rfl⟩:=h0;simp
  ·simp only [HsV,Value.slice.injEq] at hv;obtain ⟨rfl,-,rfl⟩:=hv
   first
    | exact hnc
    | exact fun ad e=>(by cases e;exact dV)
    | exact fun e=>(by cases e)
theorem aL.give {w w0 W:World} {h:Hs} {L:List Rc} (O:aL w0.heap.size w0 W h L) (hb:Below w.heap.size w w0) (hf:∀ r∈L,de w0.heap.size r.p) (hn:h.n <= 2199023255552):GvR w W h L:=by
 have eE:=hb.size;obtain ⟨⟨q1,q2,q3⟩,q4,q5⟩:=bX O hn;exact ⟨q1,q2,q3,fun ad e=>Nat.le_trans eE (q4 ad e),fun r hr=>⟨fun ad e=>Nat.le_trans eE ((hf r hr).1 ad e),fun ad e=>Nat.le_trans eE ((hf r hr).2 ad e)⟩,hb.trans (q5.mono eE)⟩
def UnA (w w':World) (x:Ending) (L:List Rc) (n:Nat) (M:List Rc) (m:Nat):Prop:=(OkR L n/\OkR M m/\∃ (h:Hs) (F:List Rc),x = .returned (.tuple #[HsV h,.int .i64 0])/\GvR w w' h F/\h.n <= n+m/\gS L M F)∨(¬ (OkR L n/\OkR M m)/\x = .returned (.tuple #[.slice none 0 0,.int .i64 1])/\Below w.heap.size w w')
theorem km (ao bo:Option Addr) (n ca m cb:Nat) (L M:List Rc) (w:World) (hS:RcT w ao n ca L) (hR:RcT w bo m cb M) (lC:n+m <= 2199023255551) :
  Calls Tryz.prog 34 #[.slice ao n ca,.slice bo m cb] w fun x w'=>UnA w w' x L n M m:=by
 have HS:=hide hS;have HR:=hide hR;have sX:=hide lC;clear hS hR lC;go_enter Tryz.func34,Tryz.ntmps34;go_wp2_with fail;refine (qY ao n ca L _ HS.out.src).mono ?_;rintro x w1 ⟨z,rfl,hz,b1⟩;have aW:=hide b1;clear b1;rcases hz with ⟨rfl,hO⟩ | ⟨rfl,hO⟩;rotate_left
 ·have HE:Hid (UnA w w1 (.returned (.tuple #[.slice none 0 0,.int .i64 1])) L n M m):=.inr ⟨fun h=>hO h.1,rfl,aW.out⟩;clear hO;go_wp2_with fail;go_ret2;exact HE.out
 have HO:=hide hO;clear hO;go_wp2_with fail;refine (qY bo m cb M _ (HR.out.src.below aW.out)).mono ?_;rintro x w0 ⟨z,rfl,hz,b2⟩;have gN:=wTr aW b2;clear b2;rcases hz with ⟨rfl,hP⟩ | ⟨rfl,hP⟩;rotate_left
 ·have HE:Hid (UnA w w0 (.returned (.tuple #[.slice none 0 0,.int .i64 1])) L n M m):=.inr ⟨fun h=>hP h.2,rfl,gN.out⟩;clear hP;go_wp2_with fail;go_ret2;exact HE.out
 have mq:Hid (((∀ r∈L,aM r)/\Srt ck (plR L))/\(∀ r∈M,aM r)/\Srt ck (plR M)):=⟨ji.1 (by rw [HS.out.src.len];exact HO.out),ji.1 (by rw [HR.out.src.len];exact hP)⟩;have HP:=hide hP;have oU:Hid (UI w0 w0 L M (n+m) ao n ca L bo m cb M hs0 []):=⟨HS.out.below gN.out,HR.out.below gN.out,aL.nil w0,fun r hr=>(by cases hr),mq.out.1.1,mq.out.2.1,fun r hr=>(by cases hr),Mg.start mq.out.1.2 mq.out.2.2,by show 0+n+m <= _;omega⟩;clear hP aW;obtain ⟨N0,GY⟩:∃ N0,n+m=N0:=⟨_,rfl⟩;rw [GY] at oU sX;have K3:=hide GY;clear GY;go_wp2_with fail;go_loopw [0,1,6] (fun a b v wr=>UIv w0 L M N0 a b v wr) (fun a b _ _=>sln a+sln b)
 case atStart=>exact UIv.of oU.out
 case round =>
  obtain ⟨xo,xn,xc,X,yo,yn,yc,Y,h,D,rfl,rfl,rfl,HU⟩:=hrel
  rename World=>wr
  clear oU mq;have EH:Hid (X.length=xn):=HU.out.xa.src.len;have Kr:Hid (Y.length=yn):=HU.out.yb.src.len;obtain ⟨bb,m6⟩:∃ bb:Bool,Hid (bb=(decide (0 < xn) && decide (0 < yn))):=⟨_,rfl⟩;go_upto_region 4 with fail
  go_cut [25] from 18 to 58 (fun s wx=>s = .bool bb/\wx=wr)
  case first =>
   by_cases h1:0 < xn
   ·have d1:decide (0 < xn)=true:=decide_eq_true h1
    have i1:(0:Int) < (xn:Int):=by omega
    by_cases h2:0 < yn
    ·have d2:decide (0 < yn)=true:=decide_eq_true h2
     have i2:(0:Int) < (yn:Int):=by omega
     obtain rfl:bb=true:=by rw [m6.out,d1,d2];rfl
     clear m6;go_wp2_with fail;go_meet
     case rel=>exact ⟨rfl,rfl⟩
    ·obtain rfl:yn=0:=by omega
     obtain rfl:bb=false:=by rw [m6.out];simp
     clear m6;go_wp2_with fail;go_meet
     case rel=>exact ⟨rfl,rfl⟩
   ·obtain rfl:xn=0:=by omega
    obtain rfl:bb=false:=by rw [m6.out];simp
    clear m6;go_wp2_with fail;go_meet
    case rel=>exact ⟨rfl,rfl⟩
  case rest =>
   obtain ⟨rfl,rfl⟩:=hcut
   rename World=>wr
   cases bb with
   | false =>
    have HZ:Hid (UnK ck (plR L) (plR M) (plR D++plR (X++Y))):=by
     have hb:=m6.out;by_cases h1:0 < xn
     ·have h2:¬ 0 < yn:=fun h2=>by rw [decide_eq_true h1,decide_eq_true h2] at hb;cases hb
      obtain rfl:Y=[]:=List.eq_nil_of_length_eq_zero (by have:=Kr.out;omega);rw [List.append_nil];exact HU.out.mg.doneL
     ·obtain rfl:X=[]:=List.eq_nil_of_length_eq_zero (by have:=EH.out;omega);exact HU.out.mg.doneR
    clear m6;have lI:=hide HU.out.num;have Da:Hid (∀ r∈X++Y,dp w0 r):=fun r hr=>(List.mem_append.1 hr).elim (HU.out.xa.src.ok r) (HU.out.yb.src.ok r);have nX:Hid (RcT wr xo xn xc X/\RcT wr yo yn yc Y/\(∀ r∈X++Y,aM r)/\xn+yn <= 2199023255551):=⟨HU.out.xa.below HU.out.own.below,HU.out.yb.below HU.out.own.below,fun r hr=>(List.mem_append.1 hr).elim (HU.out.okx r) (HU.out.oky r),by have:=lI.out;have:=sX.out;omega⟩;obtain ⟨gc,I1⟩:∃ gc,wr.heap.size=gc:=⟨_,rfl⟩;obtain ⟨w5,AM⟩:∃ w5,wr.alloc (.cells #[.slice xo xn xc,.slice yo yn yc] 27)=w5:=⟨_,rfl⟩
    have b5:Below wr.heap.size wr w5:=by rw [<- AM];exact ze wr _
    have c5:w5.cell? ⟨gc,0,none⟩=some (.slice xo xn xc)/\w5.cell? ⟨gc,1,none⟩=some (.slice yo yn yc):=by rw [<- AM,<- I1];exact ⟨by simp,by simp⟩
    have ig:=hide c5;have rZ:=hide (HU.out.later b5);have mW:=hide (nX.out.1.below b5);have BG:=hide (nX.out.2.1.below b5);clear b5 c5 HU;go_wp2_with fail;clear AM I1;refine (zak gc xo yo xn xc yn yc X Y _ mW.out.src BG.out.src mW.out.nil BG.out.nil ig.out.1 ig.out.2 (by have:=nX.out.2.2.2;omega)).mono ?_;rintro e w6 ⟨k6,rfl,JD,O6⟩;have rh:Hid (RcS w6 k6.o k6.n k6.c (X++Y)):=O6.src (by have:=nX.out.2.2.2;omega);have AC:=hide (rZ.out.later O6.below)
    have tN:Hid ((∀ ad,k6.o=some ad -> w5.heap.size <= ad.block/\ad.block < w6.heap.size)/\w5.heap.size <= w6.heap.size/\∀ r∈X++Y,dp w0 r):=by
     refine ⟨fun ad e=>O6.own.lt ad.block (by show (Value.slice k6.o k6.n k6.c).ownBlock=_;rw [e];rfl),O6.below.size,Da.out⟩
    have BP:Hid (∀ q,(HsV h).ownBlock=some q -> q < w5.heap.size∨w6.heap.size <= q):=fun q hq=>.inl (rZ.out.own.own.lt q hq).2;have JY:=hide JD;have GM:Hid ((X++Y).length=k6.n):=rh.out.len;clear O6 rZ mW BG ig JD;obtain ⟨Z,Mf⟩:∃ Z,Hid (X++Y=Z):=⟨_,rfl⟩;have Jw:=hide nX.out.2.2.1;rw [Mf.out] at rh GM HZ Jw tN;obtain ⟨zo,zn,zc⟩:=k6;rw [show HsV ⟨zo,zn,zc⟩=Value.slice zo zn zc from rfl];have GT:Hid (RcS w6 zo zn zc Z):=rh.out;have tO:Hid (Z.length=zn):=GM.out;have rO:Hid (zn=xn+yn):=JY.out;have F7:Hid ((∀ ad,zo=some ad -> w5.heap.size <= ad.block/\ad.block < w6.heap.size)/\w5.heap.size <= w6.heap.size/\∀ r∈Z,dp w0 r):=tN.out;clear rh GM JY tN;go_wp2_with fail;have uH:Hid ((∀ ad,zo=some ad -> w5.heap.size <= ad.block/\ad.block < w6.heap.size)/\w5.heap.size <= w6.heap.size/\∀ r∈Z,dp w0 r):=F7.out
    go_loopw [6,64] (fun v i wx=>∃ (k:Nat) (h2:Hs) (D2:List Rc),k <= zn/\v = .slice h2.o h2.n h2.c/\i = .int .i64 (k:Int)/\Hid (aL w0.heap.size w0 wx h2 D2/\(∀ ad,zo=some ad -> wx.heap[ad.block]? = w6.heap[ad.block]?)/\(∀ q,(HsV h2).ownBlock=some q -> q < w5.heap.size∨w6.heap.size <= q)/\w6.heap.size <= wx.heap.size/\(∀ r∈D2,de w0.heap.size r.p)/\(∀ r∈D2,aM r)/\plR D2=plR D++plR (Z.take k)/\h2.n=h.n+k)) (fun _ i _=>zn - (intOf i).toNat)
    case atStart=>exact ⟨0,h,D,Nat.zero_le _,rfl,rfl,AC.out.own,fun _ _=>rfl,BP.out,Nat.le_refl _,AC.out.fr,AC.out.okd,by simp [plR],rfl⟩
    case round =>
     obtain ⟨k,h2,D2,hk,rfl,rfl,HI⟩:=hrel
     rename World=>wx
     have Ep:=hide (zfr GT.out HI.out.2.1 (fun r hr=>(uH.out.2.2 r hr).below HI.out.1.below));by_cases aq:k < zn
     ·have dl:(k:Int) < (zn:Int):=by omega
      have As:zn <= 2199023255551:=by have:=rO.out;have:=nX.out.2.2.2;omega
      obtain ⟨ad,fl,A0⟩:=Ep.out.at k aq;have lZ:=Ep.out.okAt k aq;have HT:Hid (plR (Z.take (k+1))=plR (Z.take k)++[rck (Z.getD k rc0)]/\aM (Z.getD k rc0)):=⟨jK Z k (by rw [tO.out];exact aq),Jw.out _ (jZ (by rw [tO.out];exact aq))⟩;obtain ⟨q,Hq⟩:∃ q,Hid (Z.getD k rc0=q):=⟨_,rfl⟩;rw [Hq.out] at A0 lZ HT;have Bu:=hide fl;subst fl;have dz:=zI A0;obtain ⟨g7,fT⟩:∃ g7,wx.heap.size=g7:=⟨_,rfl⟩;obtain ⟨w7,cr,X7,B7,S7⟩:=dY wx (mkR q) g7 fT;have mw:=hide (HI.out.1.later B7);have cM:=hide B7;have mn:=hide X7;have EJ:=hide (lZ.below B7);have l7:=qU X7;have cj:=hide aq;clear A0 X7 B7 S7 lZ aq hk;go_wp2_with fail;clear cr dz fT l7;refine (jO q _ EJ.out).mono ?_;rintro e wa ⟨c,rfl,gw,Rc1,Nc,ba,Cc⟩;have Oa:=mw.out.later ba;have fM:dU h2 c.p:=fun j hj=>df.new Nc (mw.out.own.lt j hj).2
      obtain ⟨gb,cb2,wb,dW,Ob,p9,gz,CG⟩:=Oa.appAt c Rc1 fM (by have:=HI.out.2.2.2.2.2.2.2;have:=lI.out;have:=sX.out;have:=rO.out;have:=cj.out;omega);have oI:Hid ((Builtin.append_ #[27,27] 27 #[.slice h2.o h2.n h2.c,.slice (some ⟨wa.heap.size,0,none⟩) 1 1]).run Tryz.prog (wa.alloc (.cells #[.string c.s,.slice c.p.vo c.p.vn c.p.vc,.slice c.p.co c.p.cn c.p.cc] 84)) = .ok (.slice (some ⟨gb,0,none⟩) (h2.n+1) cb2) wb):=dW
      have HN:Hid (aL w0.heap.size w0 wb ⟨some ⟨gb,0,none⟩,h2.n+1,cb2⟩ (D2++[c])/\(∀ ad2,some ad=some ad2 -> wb.heap[ad2.block]? = w6.heap[ad2.block]?)/\(∀ q,(HsV ⟨some ⟨gb,0,none⟩,h2.n+1,cb2⟩).ownBlock=some q -> q < w5.heap.size∨w6.heap.size <= q)/\w6.heap.size <= wb.heap.size/\(∀ r∈D2++[c],de w0.heap.size r.p)/\(∀ r∈D2++[c],aM r)/\plR (D2++[c])=plR D++plR (Z.take (k+1))/\h2.n+1=h.n+(k+1)):=by
       have e:=y4 HT.out.2 gw Cc;have s7:=cM.out.size;have sa:=ba.size;have s6:=HI.out.2.2.2.1;refine ⟨Ob,fun ad2 e2=>?_,fun q2 nE=>?_,?_,jM HI.out.2.2.2.2.1 (Nc.mono (by have:=mw.out.below.size;exact this)),jM HI.out.2.2.2.2.2.1 (vP HT.out.2 e),?_,by have:=HI.out.2.2.2.2.2.2.2;omega⟩
       ·obtain rfl:=Option.some.inj e2;have EY:=uH.out.1 ad rfl;rw [p9 ad.block (by omega) (fun e3=>by have:=HI.out.2.2.1 _ e3;omega),ba.block ad.block (by omega),cM.out.block ad.block (by omega)];exact HI.out.2.1 ad rfl
       ·have e4:gb=q2:=Option.some.inj nE;subst e4;rcases gz with gz | gz
        ·exact HI.out.2.2.1 _ gz
        ·exact .inr (by omega)
       ·have hh:wa.heap.size <= wb.heap.size:=CG;omega
       ·rw [zbn,e,HI.out.2.2.2.2.2.2.1,HT.out.1,List.append_assoc]
      clear dW Ob Oa fM gw Rc1 Nc ba Cc p9 gz CG Ep;go_wp2_with (at_builtin;refine xP rfl (.tmp 68) (.tmp 71) rfl rfl rfl oI.out ?_);go_roundw
      case rel=>exact ⟨k+1,⟨some ⟨gb,0,none⟩,h2.n+1,cb2⟩,D2++[c],cj.out,rfl,by simp,HN.out⟩
      case measure=>simp [intOf];have:=cj.out;omega
     ·obtain rfl:k=zn:=by omega
      have dl:¬ (k:Int) < (k:Int):=by omega
      have HE:Hid (UnA w wx (.returned (.tuple #[.slice h2.o h2.n h2.c,.int .i64 0])) L n M m):=by
       obtain ⟨q1,q2,q3,q3b,q3c,q4,q5,q6⟩:=HI.out;rw [List.take_of_length_le (by have:=tO.out;omega)] at q5;exact .inl ⟨HO.out,HP.out,h2,D2,rfl,q1.give gN.out q3c (by have:=lI.out;have:=sX.out;have:=rO.out;omega),by rw [K3.out];have:=lI.out;have:=rO.out;omega,by rw [q5];exact HZ.out,q4⟩
      clear HI Ep;go_wp2_with fail;go_ret2;exact HE.out
   | true =>
    obtain ⟨rg,NR⟩:0 < xn/\0 < yn:=by
     have hb:=m6.out.symm;rw [Bool.and_eq_true,decide_eq_true_eq,decide_eq_true_eq] at hb;exact hb
    clear m6
    obtain ⟨x,X',rfl⟩:∃ x X',X=x :: X':=by
     cases X with
     | nil=>have:=EH.out;simp at this;omega
     | cons x X'=>exact ⟨x,X',rfl⟩
    obtain ⟨y,Y',rfl⟩:∃ y Y',Y=y :: Y':=by
     cases Y with
     | nil=>have:=Kr.out;simp at this;omega
     | cons y Y'=>exact ⟨y,Y',rfl⟩
    obtain ⟨bx,ox,rfl,Ax,nd,Kx⟩:=HU.out.xa.head;obtain ⟨by_,oy,rfl,Ay,eW,Ky⟩:=HU.out.yb.head;have B0:=HU.out.own.below;have EX:=hide Ax;have ET:=hide Ay;have Ek:=hide (Ax.on B0);have Ev:=hide (Ay.on B0);have FV:=hide (Kx.below B0);have F3:=hide (Ky.below B0);have nR:Hid (1 <= xn/\xn <= xc/\1 <= yn/\yn <= yc):=⟨nd,HU.out.xa.room,eW,HU.out.yb.room⟩;clear Ax Ay Kx Ky B0 nd eW;go_upto_region 5 with fail
    have i1:(0:Int) < (xn:Int):=by omega
    have i2:(0:Int) < (yn:Int):=by omega
    refine wp_region_held_drew (S:=fun v=>(fY (.pointer (some ⟨bx,ox,none⟩))).run Tryz.prog v = .ok (.agg (ReC (mkR x))) v/\(fY (.pointer (some ⟨by_,oy,none⟩))).run Tryz.prog v = .ok (.agg (ReC (mkR y))) v) (by kernel_rfl) (⟨zI (Ek.out.on (zd wr)),zI (Ev.out.on (zd wr))⟩) (fun hHeld=>?_);refine wU 0 ?_;refine wU 1 ?_;refine wU 2 ?_;refine wU 3 ?_;refine wU 4 ?_;refine wU 5 ?_;refine wR 6 fun K hK=>?_;go_simp;go_wp2_with fail;refine (xJ x y _ (FV.out.below (zd wr)) (F3.out.below (zd wr))).mono ?_;rintro e w4 ⟨z,rfl,hz,b4⟩;have sR:Below wr.heap.size wr w4:=(zd wr).trans b4;have aR:=hide sR;refine hK.out _ _ (⟨zI (Ek.out.on (sR)),zI (Ev.out.on (sR))⟩) (fun hHeld=>?_);clear hK K b4 sR;refine wU 7 ?_
    refine wD ?_ _;clear hHeld;have FR:Hid (z=ck (rck x) (rck y)):=zaW (HU.out.okx x List.mem_cons_self).2.1 (HU.out.oky y List.mem_cons_self).2.1 hz;clear hz i1 i2;have iL:=hide (HU.out.later aR.out);have uK:=hide (Ek.out.on aR.out);have tX:=hide (Ev.out.on aR.out);have M0:=hide (FV.out.below aR.out);have Gg:=hide (F3.out.below aR.out);clear HU Ek Ev FV F3 aR;by_cases dn:z < 0
    ·skip
     go_upto_region 8 with fail
     have i1:(0:Int) < (xn:Int):=by have:=nR.out;omega
     have ud:∀ W:World,(sl1 (.slice (some ⟨bx,ox,none⟩) xn xc)).run Tryz.prog W = .ok (.slice (tl1 bx ox xc) (xn - 1) (xc - 1)) W:=fun W=>zaE bx ox xn xc (by have:=nR.out;omega) (by have:=nR.out;omega) W;refine wp_region_held_drew (S:=fun v=>(fY (.pointer (some ⟨bx,ox,none⟩))).run Tryz.prog v = .ok (.agg (ReC (mkR x))) v) (by kernel_rfl) (zI (uK.out.on (zd w4))) (fun hHeld=>?_);refine wU 0 ?_;refine wU 1 ?_;refine wU 2 ?_;refine wU 3 ?_;refine wU 7 ?_;refine wU 8 ?_;refine wR 4 fun K hK=>?_;go_simp;go_wp2_with fail;refine (jO x _ (M0.out.below (zd w4))).mono ?_;rintro e wa ⟨c,rfl,gw,Rc1,Nc,ba,Cc⟩;have rT:Below w4.heap.size w4 wa:=(zd w4).trans ba;have nZ:=uK.out.on rT;have o6:bx < w4.heap.size:=World.block_lt_of_cell? _ _ uK.out.c0
     have Oa:=iL.out.own.later rT;have fM:dU h c.p:=fun j hj=>df.new Nc (iL.out.own.own.lt j hj).2;obtain ⟨gb,cb2,wb,dW,Ob,p9⟩:=Oa.app c Rc1 fM (by have:=iL.out.num;have:=sX.out;have:=nR.out;omega)
     have aT:(HsV h).ownBlock≠some bx:=fun e=>by
      have h1:=(iL.out.own.own.lt bx e).1;have h2:bx < w0.heap.size:=World.block_lt_of_cell? _ _ EX.out.c0;omega
     have BN:gQ wb ⟨bx,ox,none⟩ (mkR x):=by
      have hk:=p9 bx (Nat.lt_of_lt_of_le o6 rT.size) aT
      have hc:∀ a:Addr,a.block=bx -> wb.cell? a=wa.cell? a:=fun a e=>by unfold World.cell?;rw [e,hk]
      exact ⟨by rw [hc _ rfl];exact nZ.c0,by rw [hc _ rfl];exact nZ.c1,by rw [hc _ rfl];exact nZ.c2⟩
     have oI:Hid ((Builtin.append_ #[27,27] 27 #[.slice h.o h.n h.c,.slice (some ⟨wa.heap.size,0,none⟩) 1 1]).run Tryz.prog (wa.alloc (.cells #[.string c.s,.slice c.p.vo c.p.vn c.p.vc,.slice c.p.co c.p.cn c.p.cc] 84)) = .ok (.slice (some ⟨gb,0,none⟩) (h.n+1) cb2) wb):=dW;have HN:=hide (iL.out.left (za8 kT iL.out.mg.sb (show ck (rck x) (rck y) < 0 by rw [<- FR.out];exact dn)) gw Cc (Nc.mono (by have:=iL.out.own.below.size;exact this)) Ob rfl);have ei:Hid ((fY (.pointer (some ⟨bx,ox,none⟩))).run Tryz.prog (wa.alloc (.cells #[.string c.s,.slice c.p.vo c.p.vn c.p.vc,.slice c.p.co c.p.cn c.p.cc] 84)) = .ok (.agg (ReC (mkR x))) (wa.alloc (.cells #[.string c.s,.slice c.p.vo c.p.vn c.p.vc,.slice c.p.co c.p.cn c.p.cc] 84))):=zI (nZ.on (ze wa _));have eM:=hide (zI BN);refine hK.out _ _ (zI nZ) (fun hHeld=>?_);clear hK K dW Ob Oa fM gw Rc1 Nc ba Cc rT nZ o6 p9 aT BN
     refine wR 5 fun K hK=>?_;go_simp;refine hK.out _ _ ei.out (fun hHeld=>?_);clear hK K;refine wR 6 fun K hK=>?_;refine qe (by rfl) (.tmp 38) (.tmp 43) (by rfl) (by rfl) (by rfl) oI.out ?_;refine hK.out _ _ eM.out (fun hHeld=>?_);clear hK K;refine wR 9 fun K hK=>?_;go_simp;refine hK.out _ _ eM.out (fun hHeld=>?_);clear hK K;refine wR 10 fun K hK=>?_;go_simp;refine hK.out _ _ eM.out (fun hHeld=>?_);clear hK K;refine wD ?_ _;clear hHeld;clear ud;go_wp2_with fail;go_roundw
     case rel=>exact UIv.of HN.out
     case measure=>simp [sln];have:=nR.out;omega
    ·by_cases dm:0 < z
     ·skip
      go_upto_region 10 with fail
      have i1:(0:Int) < (yn:Int):=by have:=nR.out;omega
      have ud:∀ W:World,(sl1 (.slice (some ⟨by_,oy,none⟩) yn yc)).run Tryz.prog W = .ok (.slice (tl1 by_ oy yc) (yn - 1) (yc - 1)) W:=fun W=>zaE by_ oy yn yc (by have:=nR.out;omega) (by have:=nR.out;omega) W;refine wp_region_held_drew (S:=fun v=>(fY (.pointer (some ⟨by_,oy,none⟩))).run Tryz.prog v = .ok (.agg (ReC (mkR y))) v) (by kernel_rfl) (zI (tX.out.on (zd w4))) (fun hHeld=>?_);refine wU 0 ?_;refine wU 1 ?_;refine wU 2 ?_;refine wU 3 ?_;refine wU 7 ?_;refine wU 8 ?_;refine wR 4 fun K hK=>?_;go_simp;go_wp2_with fail;refine (jO y _ (Gg.out.below (zd w4))).mono ?_;rintro e wa ⟨c,rfl,gw,Rc1,Nc,ba,Cc⟩;have rT:Below w4.heap.size w4 wa:=(zd w4).trans ba;have nZ:=tX.out.on rT;have o6:by_ < w4.heap.size:=World.block_lt_of_cell? _ _ tX.out.c0
      have Oa:=iL.out.own.later rT;have fM:dU h c.p:=fun j hj=>df.new Nc (iL.out.own.own.lt j hj).2;obtain ⟨gb,cb2,wb,dW,Ob,p9⟩:=Oa.app c Rc1 fM (by have:=iL.out.num;have:=sX.out;have:=nR.out;omega)
      have aT:(HsV h).ownBlock≠some by_:=fun e=>by
       have h1:=(iL.out.own.own.lt by_ e).1;have h2:by_ < w0.heap.size:=World.block_lt_of_cell? _ _ ET.out.c0;omega
      have BN:gQ wb ⟨by_,oy,none⟩ (mkR y):=by
       have hk:=p9 by_ (Nat.lt_of_lt_of_le o6 rT.size) aT
       have hc:∀ a:Addr,a.block=by_ -> wb.cell? a=wa.cell? a:=fun a e=>by unfold World.cell?;rw [e,hk]
       exact ⟨by rw [hc _ rfl];exact nZ.c0,by rw [hc _ rfl];exact nZ.c1,by rw [hc _ rfl];exact nZ.c2⟩
      have oI:Hid ((Builtin.append_ #[27,27] 27 #[.slice h.o h.n h.c,.slice (some ⟨wa.heap.size,0,none⟩) 1 1]).run Tryz.prog (wa.alloc (.cells #[.string c.s,.slice c.p.vo c.p.vn c.p.vc,.slice c.p.co c.p.cn c.p.cc] 84)) = .ok (.slice (some ⟨gb,0,none⟩) (h.n+1) cb2) wb):=dW;have HN:=hide ((iL.out.symm.left (za8 kT iL.out.mg.sa (show ck (rck y) (rck x) < 0 by have h1:=FR.out;have h2:=kT.neg (rck x) (rck y);omega)) gw Cc (Nc.mono (by have:=iL.out.own.below.size;exact this)) Ob rfl).symm);have ei:Hid ((fY (.pointer (some ⟨by_,oy,none⟩))).run Tryz.prog (wa.alloc (.cells #[.string c.s,.slice c.p.vo c.p.vn c.p.vc,.slice c.p.co c.p.cn c.p.cc] 84)) = .ok (.agg (ReC (mkR y))) (wa.alloc (.cells #[.string c.s,.slice c.p.vo c.p.vn c.p.vc,.slice c.p.co c.p.cn c.p.cc] 84))):=zI (nZ.on (ze wa _));have eM:=hide (zI BN);refine hK.out _ _ (zI nZ) (fun hHeld=>?_)
      clear hK K dW Ob Oa fM gw Rc1 Nc ba Cc rT nZ o6 p9 aT BN;refine wR 5 fun K hK=>?_;go_simp;refine hK.out _ _ ei.out (fun hHeld=>?_);clear hK K;refine wR 6 fun K hK=>?_;refine qe (by rfl) (.tmp 50) (.tmp 55) (by rfl) (by rfl) (by rfl) oI.out ?_;refine hK.out _ _ eM.out (fun hHeld=>?_);clear hK K;refine wR 9 fun K hK=>?_;go_simp;refine hK.out _ _ eM.out (fun hHeld=>?_);clear hK K;refine wR 10 fun K hK=>?_;go_simp;refine hK.out _ _ eM.out (fun hHeld=>?_);clear hK K;refine wD ?_ _;clear hHeld;clear ud;go_wp2_with fail;go_roundw
      case rel=>exact UIv.of HN.out
      case measure=>simp [sln];have:=nR.out;omega
     ·obtain rfl:z=0:=by omega
      clear dn dm;have HN:=hide (iL.out.drop (by rw [zei,<- (kT.eq (rck x) (rck y)).1 (by rw [<- FR.out])];exact List.mem_cons_self) (Below.refl _ _));have ud:∀ W:World,(sl1 (.slice (some ⟨bx,ox,none⟩) xn xc)).run Tryz.prog W = .ok (.slice (tl1 bx ox xc) (xn - 1) (xc - 1)) W:=fun W=>zaE bx ox xn xc nR.out.1 nR.out.2.1 W;go_wp2_with fail;go_roundw
      case rel=>exact UIv.of HN.out
      case measure=>simp [sln];have:=nR.out;omega
end Go.Proofs.YtcilfelgpmfehaaGreat
