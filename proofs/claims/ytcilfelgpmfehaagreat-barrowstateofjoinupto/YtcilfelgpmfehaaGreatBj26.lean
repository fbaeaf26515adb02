/- RMt -/
import Derived.Test.YtcilfelgpmfehaaGreatBj02
set_option maxRecDepth 100000
set_option maxHeartbeats 8000000
namespace Go.Proofs.YtcilfelgpmfehaaGreat
open Go.RowKit
attribute [local go_sem ↓] ki j8
attribute [local go_sem] zZ zD zN qr
theorem br (x y:Int):((RC rn0).setIfInBounds 0 (.int .i64 x)).setIfInBounds 1 (.int .i64 y)=RC ⟨x,y⟩:=rfl
attribute [local go_sem] br
def gG:Value -> Nat
 | .slice _ n _=>n
 | _=>0
theorem zbr (ao bo:Option Addr) (n cap m cap':Nat) (A B:List Rn) (w:World) (hS:aU w ao n cap A) (hR:aU w bo m cap' B) :
  Calls Tryz.prog 102 #[.slice ao n cap,.slice bo m cap'] w fun e w'=>dj w w' e (dD A B):=by
 have HS:=hide hS;have HR:=hide hR;clear hS hR;go_enter Tryz.func102,Tryz.ntmps102;go_wp2_with fail;refine (vt ao n cap A _ HS.out).mono ?_;rintro e w1 ⟨a1,n1,c1,X,rfl,S1,b1,p1⟩;have ei:=hide S1;have eo:=hide p1;have aW:=hide b1;clear S1 b1 p1;go_wp2_with fail;refine (vt bo m cap' B _ (HR.out.below aW.out)).mono ?_;rintro e w2 ⟨a2,n2,c2,Y,rfl,S2,b2,p2⟩;have eM:=hide S2;have gP:=hide p2;have EU:=hide (ei.out.below b2);have cd:=wTr aW b2;clear S2 b2 p2 ei aW;go_wp2_with fail;go_loopw [5,6,7,8,9] (fun u v o _ _ wr=>∃ (ax:Option Addr) (nx cx:Nat) (x':List Rn) (ay:Option Addr) (ny cy:Nat) (y':List Rn) (ap:Option Addr) (c:Nat) (acc:List Rn),u = .slice ax nx cx/\v = .slice ay ny cy/\o = .slice ap acc.length c/\aU w2 ax nx cx x'/\aU w2 ay ny cy y'/\du w2.heap.size w2.heap.size w2 wr ap c acc/\dM X Y x' y' acc) (fun u v _ _ _ _=>gG u+gG v)
 case atStart=>exact ⟨a1,n1,c1,X,a2,n2,c2,Y,none,0,[],rfl,rfl,rfl,EU.out,eM.out,du.nil (Below.refl _ _) (Nat.le_refl _) (Nat.le_refl _),dM.start eo.out.1 gP.out.1⟩
 case round =>
  obtain ⟨ax,nx,cx,x',ay,ny,cy,y',ap,c,acc,rfl,rfl,rfl,SX,SY,O,I⟩:=hrel
  rename World=>w4
  have H:Hid (du w2.heap.size w2.heap.size w2 w4 ap c acc/\dM X Y x' y' acc):=⟨O,I⟩;have mA:=hide SX;have rE:=hide SY;have oG:=x7 (Int.le_refl _) I.frm;have NO:=SX.cap;have NA:=SY.cap;have Lm:=SX.room;have Lf:=SY.room;unfold maxLen at Lm Lf;clear SX SY O I;by_cases h1:0 < nx
  ·by_cases h2:0 < ny
   ·obtain ⟨adx,rfl,_⟩:=mA.out.at 0 h1;obtain ⟨ady,rfl,_⟩:=rE.out.at 0 h2;obtain ⟨bx,ox,rfl⟩:=mA.out.spot h1;obtain ⟨by_,oy,rfl⟩:=rE.out.spot h2
    obtain ⟨a,xs,rfl⟩:∃ a xs,x'=a :: xs:=by
     have:=mA.out.len
     cases x' with
     | nil=>simp at this;omega
     | cons a xs=>exact ⟨a,xs,rfl⟩
    obtain ⟨b,ys,rfl⟩:∃ b ys,y'=b :: ys:=by
     have:=rE.out.len
     cases y' with
     | nil=>simp at this;omega
     | cons b ys=>exact ⟨b,ys,rfl⟩
    obtain ⟨q0,q1⟩:=mA.out.nums 0 h1;obtain ⟨q2,q3⟩:=rE.out.nums 0 h2;simp [List.getD] at q0 q1 q2 q3;have ow:=hide q1;have tw:=hide q3;have k0:=cell_regrown ((H.out.1.below.cell (World.block_lt_of_cell? _ _ q0)).trans q0);have k1:=cell_regrown ((H.out.1.below.cell (World.block_lt_of_cell? _ _ q1)).trans q1);have k2:=cell_regrown ((H.out.1.below.cell (World.block_lt_of_cell? _ _ q2)).trans q2);have k3:=cell_regrown ((H.out.1.below.cell (World.block_lt_of_cell? _ _ q3)).trans q3);clear q0 q1 q2 q3;by_cases m9:max a.lo b.lo <= min a.hi b.hi
    ·by_cases aq:a.hi < b.hi
     ·go_wp2_with fail;refine wp_region_quiet_below (by kernel_rfl) (by kernel_rfl) ?_
      repeat (with_reducible (refine wpQuiet_step ?_);intro K hK;go_simp;(try rw [if_neg (by unfold undef;simp)]);first | (with_reducible (refine hK _ ?_);clear hK K) | (apply Exists.intro;refine ⟨fun _=>?_,hK _ ?_⟩;(fail);clear hK K))
      with_reducible (refine wpQuiet_nil ?_)
      intro w5 hw';obtain ⟨⟨dq,osq⟩,hw''⟩:=hw'
      have b5:Below w4.heap.size w4 w5:=by rw [hw''];exact below_regrown w4 dq osq
      clear hw'' dq osq;have iB:=hide (H.out.1.later b5);clear b5 k0 k1 k2 k3;go_wp2_with (at_builtin;refine iB.out.append ⟨max a.lo b.lo,min a.hi b.hi⟩ _ rfl (by omega) rfl (.tmp 43) (.tmp 47) rfl acc.length rfl rfl rfl ?_;intro g6 c6 w6 O6);have mx:=hide O6;clear O6
      have KT:(acc++[(⟨max a.lo b.lo,min a.hi b.hi⟩:Rn)]).length=acc.length+1:=by simp
      have k1:=cell_regrown ((mx.out.below.cell (World.block_lt_of_cell? _ _ ow.out)).trans ow.out);have k3:=cell_regrown ((mx.out.below.cell (World.block_lt_of_cell? _ _ tw.out)).trans tw.out);refine wp_region_quiet_below (by kernel_rfl) (by kernel_rfl) ?_
      repeat (with_reducible (refine wpQuiet_step ?_);intro K hK;go_simp;(try rw [if_neg (by unfold undef;simp)]);first | (with_reducible (refine hK _ ?_);clear hK K) | (apply Exists.intro;refine ⟨fun _=>?_,hK _ ?_⟩;(fail);clear hK K))
      with_reducible (refine wpQuiet_nil ?_)
      intro w8 hw';obtain ⟨⟨dq,osq⟩,hw''⟩:=hw'
      have b8:Below w6.heap.size w6 w8:=by rw [hw''];exact below_regrown w6 dq osq
      clear hw'' dq osq;have iU:=hide (mx.out.later b8);clear b8 k1 k3
      have HM:Hid (met acc a b=acc++[⟨max a.lo b.lo,min a.hi b.hi⟩]):=by show _=_;unfold met;rw [if_pos (by omega)]
      have HN:=hide (H.out.2.left (by omega));rw [HM.out] at HN;go_wp2_with fail;go_roundw
      case rel=>exact ⟨if cx=1 then some ⟨bx,ox,none⟩ else some ⟨bx,ox+2,none⟩,nx - 1,cx - 1,xs,some ⟨by_,oy,none⟩,ny,cy,b :: ys,some ⟨g6,0,none⟩,c6,acc++[⟨max a.lo b.lo,min a.hi b.hi⟩],rfl,rfl,by simp,mA.out.tail',rE.out,iU.out,HN.out⟩
      case measure=>simp [gG];omega
     ·go_wp2_with fail;refine wp_region_quiet_below (by kernel_rfl) (by kernel_rfl) ?_
      repeat (with_reducible (refine wpQuiet_step ?_);intro K hK;go_simp;(try rw [if_neg (by unfold undef;simp)]);first | (with_reducible (refine hK _ ?_);clear hK K) | (apply Exists.intro;refine ⟨fun _=>?_,hK _ ?_⟩;(fail);clear hK K))
      with_reducible (refine wpQuiet_nil ?_)
      intro w5 hw';obtain ⟨⟨dq,osq⟩,hw''⟩:=hw'
      have b5:Below w4.heap.size w4 w5:=by rw [hw''];exact below_regrown w4 dq osq
      clear hw'' dq osq;have iB:=hide (H.out.1.later b5);clear b5 k0 k1 k2 k3;go_wp2_with (at_builtin;refine iB.out.append ⟨max a.lo b.lo,min a.hi b.hi⟩ _ rfl (by omega) rfl (.tmp 43) (.tmp 47) rfl acc.length rfl rfl rfl ?_;intro g6 c6 w6 O6);have mx:=hide O6;clear O6
      have KT:(acc++[(⟨max a.lo b.lo,min a.hi b.hi⟩:Rn)]).length=acc.length+1:=by simp
      have k1:=cell_regrown ((mx.out.below.cell (World.block_lt_of_cell? _ _ ow.out)).trans ow.out);have k3:=cell_regrown ((mx.out.below.cell (World.block_lt_of_cell? _ _ tw.out)).trans tw.out);refine wp_region_quiet_below (by kernel_rfl) (by kernel_rfl) ?_
      repeat (with_reducible (refine wpQuiet_step ?_);intro K hK;go_simp;(try rw [if_neg (by unfold undef;simp)]);first | (with_reducible (refine hK _ ?_);clear hK K) | (apply Exists.intro;refine ⟨fun _=>?_,hK _ ?_⟩;(fail);clear hK K))
      with_reducible (refine wpQuiet_nil ?_)
      intro w8 hw';obtain ⟨⟨dq,osq⟩,hw''⟩:=hw'
      have b8:Below w6.heap.size w6 w8:=by rw [hw''];exact below_regrown w6 dq osq
      clear hw'' dq osq;have iU:=hide (mx.out.later b8);clear b8 k1 k3
      have HM:Hid (met acc a b=acc++[⟨max a.lo b.lo,min a.hi b.hi⟩]):=by show _=_;unfold met;rw [if_pos (by omega)]
      have HN:=hide (H.out.2.right (by omega));rw [HM.out] at HN;go_wp2_with fail;go_roundw
      case rel=>exact ⟨some ⟨bx,ox,none⟩,nx,cx,a :: xs,if cy=1 then some ⟨by_,oy,none⟩ else some ⟨by_,oy+2,none⟩,ny - 1,cy - 1,ys,some ⟨g6,0,none⟩,c6,acc++[⟨max a.lo b.lo,min a.hi b.hi⟩],rfl,rfl,by simp,mA.out,rE.out.tail',iU.out,HN.out⟩
      case measure=>simp [gG];omega
    ·by_cases aq:a.hi < b.hi
     ·go_wp2_with fail;refine wp_region_quiet_below (by kernel_rfl) (by kernel_rfl) ?_
      repeat (with_reducible (refine wpQuiet_step ?_);intro K hK;go_simp;(try rw [if_neg (by unfold undef;simp)]);first | (with_reducible (refine hK _ ?_);clear hK K) | (apply Exists.intro;refine ⟨fun _=>?_,hK _ ?_⟩;(fail);clear hK K))
      with_reducible (refine wpQuiet_nil ?_)
      intro w5 hw';obtain ⟨⟨dq,osq⟩,hw''⟩:=hw'
      have b5:Below w4.heap.size w4 w5:=by rw [hw''];exact below_regrown w4 dq osq
      clear hw'' dq osq;have iB:=hide (H.out.1.later b5);clear b5 k0 k1 k2 k3;go_wp2_with fail;have k1:=cell_regrown ((iB.out.below.cell (World.block_lt_of_cell? _ _ ow.out)).trans ow.out);have k3:=cell_regrown ((iB.out.below.cell (World.block_lt_of_cell? _ _ tw.out)).trans tw.out);refine wp_region_quiet_below (by kernel_rfl) (by kernel_rfl) ?_
      repeat (with_reducible (refine wpQuiet_step ?_);intro K hK;go_simp;(try rw [if_neg (by unfold undef;simp)]);first | (with_reducible (refine hK _ ?_);clear hK K) | (apply Exists.intro;refine ⟨fun _=>?_,hK _ ?_⟩;(fail);clear hK K))
      with_reducible (refine wpQuiet_nil ?_)
      intro w8 hw';obtain ⟨⟨dq,osq⟩,hw''⟩:=hw'
      have b8:Below w5.heap.size w5 w8:=by rw [hw''];exact below_regrown w5 dq osq
      clear hw'' dq osq;have iU:=hide (iB.out.later b8);clear b8 k1 k3
      have HM:Hid (met acc a b=acc):=by show _=_;unfold met;rw [if_neg (by omega)]
      have HN:=hide (H.out.2.left (by omega));rw [HM.out] at HN;go_wp2_with fail;go_roundw
      case rel=>exact ⟨if cx=1 then some ⟨bx,ox,none⟩ else some ⟨bx,ox+2,none⟩,nx - 1,cx - 1,xs,some ⟨by_,oy,none⟩,ny,cy,b :: ys,ap,c,acc,rfl,rfl,rfl,mA.out.tail',rE.out,iU.out,HN.out⟩
      case measure=>simp [gG];omega
     ·go_wp2_with fail;refine wp_region_quiet_below (by kernel_rfl) (by kernel_rfl) ?_
      repeat (with_reducible (refine wpQuiet_step ?_);intro K hK;go_simp;(try rw [if_neg (by unfold undef;simp)]);first | (with_reducible (refine hK _ ?_);clear hK K) | (apply Exists.intro;refine ⟨fun _=>?_,hK _ ?_⟩;(fail);clear hK K))
      with_reducible (refine wpQuiet_nil ?_)
      intro w5 hw';obtain ⟨⟨dq,osq⟩,hw''⟩:=hw'
      have b5:Below w4.heap.size w4 w5:=by rw [hw''];exact below_regrown w4 dq osq
      clear hw'' dq osq;have iB:=hide (H.out.1.later b5);clear b5 k0 k1 k2 k3;go_wp2_with fail;have k1:=cell_regrown ((iB.out.below.cell (World.block_lt_of_cell? _ _ ow.out)).trans ow.out);have k3:=cell_regrown ((iB.out.below.cell (World.block_lt_of_cell? _ _ tw.out)).trans tw.out);refine wp_region_quiet_below (by kernel_rfl) (by kernel_rfl) ?_
      repeat (with_reducible (refine wpQuiet_step ?_);intro K hK;go_simp;(try rw [if_neg (by unfold undef;simp)]);first | (with_reducible (refine hK _ ?_);clear hK K) | (apply Exists.intro;refine ⟨fun _=>?_,hK _ ?_⟩;(fail);clear hK K))
      with_reducible (refine wpQuiet_nil ?_)
      intro w8 hw';obtain ⟨⟨dq,osq⟩,hw''⟩:=hw'
      have b8:Below w5.heap.size w5 w8:=by rw [hw''];exact below_regrown w5 dq osq
      clear hw'' dq osq;have iU:=hide (iB.out.later b8);clear b8 k1 k3
      have HM:Hid (met acc a b=acc):=by show _=_;unfold met;rw [if_neg (by omega)]
      have HN:=hide (H.out.2.right (by omega));rw [HM.out] at HN;go_wp2_with fail;go_roundw
      case rel=>exact ⟨some ⟨bx,ox,none⟩,nx,cx,a :: xs,if cy=1 then some ⟨by_,oy,none⟩ else some ⟨by_,oy+2,none⟩,ny - 1,cy - 1,ys,ap,c,acc,rfl,rfl,rfl,mA.out,rE.out.tail',iU.out,HN.out⟩
      case measure=>simp [gG];omega
   ·obtain rfl:ny=0:=by omega
    have hy:y'=[]:=List.eq_nil_of_length_eq_zero rE.out.len;have HD:=hide (H.out.2.done (Or.inr hy) eo.out gP.out);obtain ⟨S4,F4⟩:=H.out.1.src (by omega);have HN:Hid (dj w w4 (.returned (.slice ap acc.length c)) (dD A B)):=⟨ap,acc.length,c,acc,rfl,S4,cd.out.trans (H.out.1.below.mono cd.out.size),(fun ad h=>Nat.le_trans cd.out.size (F4 ad h)),HD.out⟩;clear S4 F4;go_wp2_with fail;go_ret;exact HN.out
  ·obtain rfl:nx=0:=by omega
   have hx:x'=[]:=List.eq_nil_of_length_eq_zero mA.out.len;have HD:=hide (H.out.2.done (Or.inl hx) eo.out gP.out);obtain ⟨S4,F4⟩:=H.out.1.src (by omega);have HN:Hid (dj w w4 (.returned (.slice ap acc.length c)) (dD A B)):=⟨ap,acc.length,c,acc,rfl,S4,cd.out.trans (H.out.1.below.mono cd.out.size),(fun ad h=>Nat.le_trans cd.out.size (F4 ad h)),HD.out⟩;clear S4 F4;go_wp2_with fail;go_ret;exact HN.out
end Go.Proofs.YtcilfelgpmfehaaGreat
