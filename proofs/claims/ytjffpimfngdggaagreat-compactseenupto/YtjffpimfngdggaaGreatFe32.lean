/- PLp BFp RMt ROs RWi PWi -/
import Derived.Test.YtjffpimfngdggaaGreatTk
import Derived.Test.YtjffpimfngdggaaGreatFe09
import Derived.Test.YtjffpimfngdggaaGreatFe18
import Derived.Test.YtjffpimfngdggaaGreatFe05
import Derived.Test.YtjffpimfngdggaaGreatFe22
import Derived.Test.YtjffpimfngdggaaGreatFe17
import Derived.Deep.RegionHeld3
set_option maxRecDepth 100000
set_option maxHeartbeats 8000000
namespace Go.Proofs.YtjffpimfngdggaaGreat
section
open Go.RowKit

def mP (P:Pst):Nat -> Int -> Prop:=fun r n=>mem (ae P r) n
def mOr (M M':Nat -> Int -> Prop):Nat -> Int -> Prop:=fun r n=>M r n∨M' r n
def Nw (M M':Nat -> Int -> Prop):Nat -> Int -> Prop:=fun r n=>M r n/\M' r n
def Jh (M M':Nat -> Int -> Prop):Nat -> Int -> Prop:=fun r n=>M r n/\¬ M' r n
def IsP (M:Nat -> Int -> Prop) (P:Pst):Prop:=∃ C,af C P/\∀ r,r < 16 -> ∀ n,mem (C r) n↔M r n
def Eqv (M M':Nat -> Int -> Prop):Prop:=∀ r,r < 16 -> ∀ n,M r n↔M' r n
theorem IsP.len {M:Nat -> Int -> Prop} {P:Pst} (h:IsP M P):P.cloud.length <= 8000000016:=by
 obtain ⟨C,hC,_⟩:=h;exact (jW hC).1
theorem zeR {a b:Pst} {P:Pst} (h:∃ C:Nat -> List Rn,(∀ r,r < 16 -> cH (ae a r) (ae b r) (C r))/\af C P):IsP (Jh (mP a) (mP b)) P:=by
 obtain ⟨C,hM,hC⟩:=h;exact ⟨C,hC,fun r hr n=>(hM r hr).2 n⟩
def SzP (M:Nat -> Int -> Prop) (z:Int):Prop:=∃ N,(∀ r,r < 16 -> form 1 (N r)/\∀ n,Go.Proofs.YtjffpimfngdggaaGreat.mem (N r) n↔M r n)/\z=eK N 16
theorem SzP.none:SzP (fun _ _=>False) 0:=⟨fun _=>[],fun _ _=>⟨trivial,fun n=>⟨fun h=>qV n h,fun h=>h.elim⟩⟩,by decide⟩
end
section
open Go.RowKit Go.Maps Go.Sort
theorem aO.setOther {B:Nat} {w W:World} {h:Hs} {L:List Rc} (O:aO B w W h L) (g:Nat) (cs:Array Value) (hg:w.heap.size <= g) (ch:(HsV h).ownBlock≠some g) (hf:∀ r∈L,dA r.p g):aO B w (W.setRow g cs) h L:=by
 have hs:(W.setRow g cs).heap.size=W.heap.size:=by simp [World.setRow]
 have hk:∀ q,q < W.heap.size -> some q≠some g -> (W.setRow g cs).heap[q]? = W.heap[q]?:=fun q _ hq=>setRow_other _ _ _ _ (fun e=>hq (by rw [e]));have hG:W.grownBy (W.setRow g cs) (some g):=⟨rfl,rfl,rfl,by omega,hk⟩;exact ⟨O.own.kept hG (.inr ch),fun r hr=>⟨⟨xR (O.ok r hr).1.1 (fun k e=>by obtain rfl:=Option.some.inj e;exact hf r hr) hk,(O.ok r hr).1.2⟩,(O.ok r hr).2⟩,zh O.below hg,O.hB.1,by have:=O.hB.2;omega⟩
def ofS (R:List Rc) (s:ByteArray):List Pv:=(R.filter (fun r=>decide (r.s=s))).map (fun r=>r.p)
theorem vD (R:List Rc) (s:ByteArray):(ofS R s).length <= R.length:=by unfold ofS;rw [List.length_map];exact List.length_filter_le _ _
theorem wf (R:List Rc) (r:Rc) (s:ByteArray):pvs (ofS (R++[r]) s)=if s=r.s then pvs (ofS R s)++(PC r.p).toList else pvs (ofS R s):=by
 unfold ofS;rw [List.filter_append,List.map_append,yP];by_cases h:s=r.s
 ·subst h;simp [zen]
 ·have h':¬ r.s=s:=fun e=>h e.symm;simp [h,h',pvs]
theorem km {R:List Rc} {s:ByteArray} {p:Pv}:p∈ofS R s↔∃ r∈R,r.s=s/\r.p=p:=by
 unfold ofS;rw [List.mem_map];constructor
 ·rintro ⟨r,hr,rfl⟩;have:=List.mem_filter.1 hr;exact ⟨r,this.1,by simpa using this.2,rfl⟩
 ·rintro ⟨r,hr,hs,rfl⟩;exact ⟨r,List.mem_filter.2 ⟨hr,by simpa using hs⟩,rfl⟩
theorem j6 (X:List Pv) (r:Nat) (n:Int):mem (aw X r) n↔∃ p∈X,mem (ae p.P r) n:=by
 induction X with
 | nil=>simp [aw,mem]
 | cons p X ih =>
  have e:aw (p :: X) r=ae p.P r++aw X r:=rfl;rw [e,mem_append,ih];simp
def cP:ByteArray:=⟨#[]⟩
def eJ (R:List Rc) (s:ByteArray) (r:Nat) (n:Int):Prop:=(∃ x∈R,x.s=s/\mem (ae x.p.P r) n)/\(s≠cP -> ¬ ∃ x∈R,x.s=cP/\mem (ae x.p.P r) n)
theorem zai {R:List Rc} {s:ByteArray} {P:Pst} (h:af (aw (ofS R s)) P) (r:Nat) (hr:r < 16) (n:Int):mem (ae P r) n↔∃ x∈R,x.s=s/\mem (ae x.p.P r) n:=by
 rw [qf h r hr n,j6];constructor
 ·rintro ⟨p,hp,hm⟩;obtain ⟨x,hx,hs,rfl⟩:=km.1 hp;exact ⟨x,hx,hs,hm⟩
 ·rintro ⟨x,hx,hs,hm⟩;exact ⟨x.p,km.2 ⟨x,hx,hs,rfl⟩,hm⟩
theorem zgB {R:List Rc} {P:Pst} (h:af (aw (ofS R cP)) P):IsP (eJ R cP) P:=
 ⟨_,h,fun r hr n=>by
  rw [<- qf h r hr n,zai h r hr n]
  exact ⟨fun h=>⟨h,fun e=>absurd rfl e⟩,fun h=>h.1⟩⟩
theorem zan {R:List Rc} {s:ByteArray} {P A M:Pst} (hs:s≠cP) (h:af (aw (ofS R s)) P) (ha:af (aw (ofS R cP)) A) (hm:∃ C:Nat -> List Rn,(∀ r,r < 16 -> cH (ae P r) (ae A r) (C r))/\af C M):IsP (eJ R s) M:=by
 obtain ⟨C,hC,hI⟩:=zeR hm;refine ⟨C,hC,fun r hr n=>(hI r hr n).trans ?_⟩
 show mem (ae P r) n/\¬ mem (ae A r) n↔_
 rw [zai h r hr n,zai ha r hr n];exact ⟨fun h=>⟨h.1,fun _=>h.2⟩,fun h=>⟨h.1,h.2 hs⟩⟩
def iN (R F:List Rc):Prop:=F.Pairwise (fun a b=>eX a.s b.s < 0)/\(∀ x∈F,(∃ r∈R,r.s=x.s)/\IsP (eJ R x.s) x.p.P/\¬ gD x.p.P)/\∀ s,(∃ r∈R,r.s=s) -> (∀ x∈F,x.s≠s) -> ∀ r,r < 16 -> ∀ n,¬ eJ R s r n
def fl (R:List Rc) (T:List (List UInt8)) (F:List Rc):Prop:=(F.map (fun x=>x.s.data.toList)).Sublist T/\(∀ x∈F,IsP (eJ R x.s) x.p.P/\¬ gD x.p.P)/\∀ t∈T,(∀ x∈F,x.s≠⟨t.toArray⟩) -> ∀ r,r < 16 -> ∀ n,¬ eJ R ⟨t.toArray⟩ r n
theorem fl.start (R:List Rc):fl R [] []:=⟨List.Sublist.refl _,fun x h=>(by cases h),fun t h=>(by cases h)⟩
theorem fl.skip {R F:List Rc} {T:List (List UInt8)} (h:fl R T F) (t:List UInt8) (he:∀ r,r < 16 -> ∀ n,¬ eJ R ⟨t.toArray⟩ r n):fl R (T++[t]) F:=by
 refine ⟨h.1.trans (List.sublist_append_left _ _),h.2.1,fun u hu hn=>?_⟩;rcases List.mem_append.1 hu with hu | hu
 ·exact h.2.2 u hu hn
 ·obtain rfl:u=t:=by simpa using hu
  exact he
theorem fl.add {R F:List Rc} {T:List (List UInt8)} (h:fl R T F) (t:List UInt8) (x:Rc) (hx:x.s=⟨t.toArray⟩) (hI:IsP (eJ R x.s) x.p.P) (hE:¬ gD x.p.P):fl R (T++[t]) (F++[x]):=by
 refine ⟨?_,fun y hy=>?_,fun u hu hn=>?_⟩
 ·rw [List.map_append];refine h.1.append ?_;simp [hx]
 ·rcases List.mem_append.1 hy with hy | hy
  ·exact h.2.1 y hy
  ·obtain rfl:y=x:=by simpa using hy
   exact ⟨hI,hE⟩
 ·rcases List.mem_append.1 hu with hu | hu
  ·exact h.2.2 u hu (fun y hy=>hn y (List.mem_append_left _ hy))
  ·obtain rfl:u=t:=by simpa using hu
   exact absurd hx (hn x (by simp))
theorem fl.done {R F:List Rc} {T:List (List UInt8)} (h:fl R T F) (hT:T.Pairwise (fun a b=>Lib.compareBytes a b < 0)) (hK:∀ t,t∈T↔∃ r∈R,r.s=⟨t.toArray⟩):iN R F:=by
 refine ⟨List.pairwise_map.1 (hT.sublist h.1),fun x hx=>⟨?_,h.2.1 x hx⟩,fun s hs hn=>?_⟩
 ·have:=(hK x.s.data.toList).1 (h.1.subset (List.mem_map.2 ⟨x,hx,rfl⟩));simpa using this
 ·have hm:s.data.toList∈T:=(hK _).2 (by simpa using hs);have:=h.2.2 _ hm (by simpa using hn);simpa using this
end
section
open Go.RowKit
attribute [local go_sem ↓] kM ky
attribute [local go_sem] zS zC zN ql
theorem zaF (x y:Int):((RC rn0).setIfInBounds 0 (.int .i64 x)).setIfInBounds 1 (.int .i64 y)=RC ⟨x,y⟩:=rfl
attribute [local go_sem] zaF
def ii:Value -> Nat
 | .slice _ n _=>n
 | _=>0
theorem zcH (ao bo:Option Addr) (n cap m cap':Nat) (A B:List Rn) (w:World) (hS:aX w ao n cap A) (hR:aX w bo m cap' B) :
  Calls Tryz.prog 150 #[.slice ao n cap,.slice bo m cap'] w fun e w'=>dC w w' e (dV A B):=by
 have HS:=hide hS;have HR:=hide hR;clear hS hR;go_enter Tryz.func150,Tryz.ntmps150;go_wp2_with fail;refine (wh ao n cap A _ HS.out).mono ?_;rintro e w1 ⟨a1,n1,c1,X,rfl,S1,b1,p1⟩;have dm:=hide S1;have fA:=hide p1;have aN:=hide b1;clear S1 b1 p1;go_wp2_with fail;refine (wh bo m cap' B _ (HR.out.below aN.out)).mono ?_;rintro e w2 ⟨a2,n2,c2,Y,rfl,S2,b2,p2⟩;have dX:=hide S2;have lR:=hide p2;have G3:=hide (dm.out.below b2);have cg:=wTr aN b2;clear S2 b2 p2 dm aN;go_wp2_with fail;go_loopw [5,6,7,8,9] (fun u v o _ _ wr=>∃ (ax:Option Addr) (nx cx:Nat) (x':List Rn) (ay:Option Addr) (ny cy:Nat) (y':List Rn) (ap:Option Addr) (c:Nat) (acc:List Rn),u = .slice ax nx cx/\v = .slice ay ny cy/\o = .slice ap acc.length c/\aX w2 ax nx cx x'/\aX w2 ay ny cy y'/\dI w2.heap.size w2.heap.size w2 wr ap c acc/\ez X Y x' y' acc) (fun u v _ _ _ _=>ii u+ii v)
 case atStart=>exact ⟨a1,n1,c1,X,a2,n2,c2,Y,none,0,[],rfl,rfl,rfl,G3.out,dX.out,dI.nil (Below.refl _ _) (Nat.le_refl _) (Nat.le_refl _),ez.start fA.out.1 lR.out.1⟩
 case round =>
  obtain ⟨ax,nx,cx,x',ay,ny,cy,y',ap,c,acc,rfl,rfl,rfl,SX,SY,O,I⟩:=hrel
  rename World=>w4
  have H:Hid (dI w2.heap.size w2.heap.size w2 w4 ap c acc/\ez X Y x' y' acc):=⟨O,I⟩;have ng:=hide SX;have sL:=hide SY;have nq:=xt (Int.le_refl _) I.frm;have NE:=SX.cap;have NJ:=SY.cap;have Lr:=SX.room;have ME:=SY.room;unfold maxLen at Lr ME;clear SX SY O I;by_cases h1:0 < nx
  ·by_cases h2:0 < ny
   ·obtain ⟨adx,rfl,_⟩:=ng.out.at 0 h1;obtain ⟨ady,rfl,_⟩:=sL.out.at 0 h2;obtain ⟨bx,ox,rfl⟩:=ng.out.spot h1;obtain ⟨by_,oy,rfl⟩:=sL.out.spot h2
    obtain ⟨a,xs,rfl⟩:∃ a xs,x'=a :: xs:=by
     have:=ng.out.len
     cases x' with
     | nil=>simp at this;omega
     | cons a xs=>exact ⟨a,xs,rfl⟩
    obtain ⟨b,ys,rfl⟩:∃ b ys,y'=b :: ys:=by
     have:=sL.out.len
     cases y' with
     | nil=>simp at this;omega
     | cons b ys=>exact ⟨b,ys,rfl⟩
    obtain ⟨q0,q1⟩:=ng.out.nums 0 h1;obtain ⟨q2,q3⟩:=sL.out.nums 0 h2;simp [List.getD] at q0 q1 q2 q3;have pg:=hide q1;have ue:=hide q3;have k0:=cell_regrown ((H.out.1.below.cell (World.block_lt_of_cell? _ _ q0)).trans q0);have k1:=cell_regrown ((H.out.1.below.cell (World.block_lt_of_cell? _ _ q1)).trans q1);have k2:=cell_regrown ((H.out.1.below.cell (World.block_lt_of_cell? _ _ q2)).trans q2);have k3:=cell_regrown ((H.out.1.below.cell (World.block_lt_of_cell? _ _ q3)).trans q3);clear q0 q1 q2 q3;by_cases ip:max a.lo b.lo <= min a.hi b.hi
    ·by_cases ak:a.hi < b.hi
     ·go_wp2_with fail;refine wp_region_quiet_below (by kernel_rfl) (by kernel_rfl) ?_
      repeat (with_reducible (refine wpQuiet_step ?_);intro K hK;go_simp;(try rw [if_neg (by unfold undef;simp)]);first | (with_reducible (refine hK _ ?_);clear hK K) | (apply Exists.intro;refine ⟨fun _=>?_,hK _ ?_⟩;(fail);clear hK K))
      with_reducible (refine wpQuiet_nil ?_)
      intro w5 hw';obtain ⟨⟨dq,osq⟩,hw''⟩:=hw'
      have b5:Below w4.heap.size w4 w5:=by rw [hw''];exact below_regrown w4 dq osq
      clear hw'' dq osq;have iq:=hide (H.out.1.later b5);clear b5 k0 k1 k2 k3;go_wp2_with (at_builtin;refine iq.out.append ⟨max a.lo b.lo,min a.hi b.hi⟩ _ rfl (by omega) rfl (.tmp 43) (.tmp 47) rfl acc.length rfl rfl rfl ?_;intro g6 c6 w6 O6);have lN:=hide O6;clear O6
      have LH:(acc++[(⟨max a.lo b.lo,min a.hi b.hi⟩:Rn)]).length=acc.length+1:=by simp
      have k1:=cell_regrown ((lN.out.below.cell (World.block_lt_of_cell? _ _ pg.out)).trans pg.out);have k3:=cell_regrown ((lN.out.below.cell (World.block_lt_of_cell? _ _ ue.out)).trans ue.out);refine wp_region_quiet_below (by kernel_rfl) (by kernel_rfl) ?_
      repeat (with_reducible (refine wpQuiet_step ?_);intro K hK;go_simp;(try rw [if_neg (by unfold undef;simp)]);first | (with_reducible (refine hK _ ?_);clear hK K) | (apply Exists.intro;refine ⟨fun _=>?_,hK _ ?_⟩;(fail);clear hK K))
      with_reducible (refine wpQuiet_nil ?_)
      intro w8 hw';obtain ⟨⟨dq,osq⟩,hw''⟩:=hw'
      have b8:Below w6.heap.size w6 w8:=by rw [hw''];exact below_regrown w6 dq osq
      clear hw'' dq osq;have fD:=hide (lN.out.later b8);clear b8 k1 k3
      have HM:Hid (met acc a b=acc++[⟨max a.lo b.lo,min a.hi b.hi⟩]):=by show _=_;unfold met;rw [if_pos (by omega)]
      have HN:=hide (H.out.2.left (by omega));rw [HM.out] at HN;go_wp2_with fail;go_roundw
      case rel=>exact ⟨if cx=1 then some ⟨bx,ox,none⟩ else some ⟨bx,ox+2,none⟩,nx - 1,cx - 1,xs,some ⟨by_,oy,none⟩,ny,cy,b :: ys,some ⟨g6,0,none⟩,c6,acc++[⟨max a.lo b.lo,min a.hi b.hi⟩],rfl,rfl,by simp,ng.out.tail',sL.out,fD.out,HN.out⟩
      case measure=>simp [ii];omega
     ·go_wp2_with fail;refine wp_region_quiet_below (by kernel_rfl) (by kernel_rfl) ?_
      repeat (with_reducible (refine wpQuiet_step ?_);intro K hK;go_simp;(try rw [if_neg (by unfold undef;simp)]);first | (with_reducible (refine hK _ ?_);clear hK K) | (apply Exists.intro;refine ⟨fun _=>?_,hK _ ?_⟩;(fail);clear hK K))
      with_reducible (refine wpQuiet_nil ?_)
      intro w5 hw';obtain ⟨⟨dq,osq⟩,hw''⟩:=hw'
      have b5:Below w4.heap.size w4 w5:=by rw [hw''];exact below_regrown w4 dq osq
      clear hw'' dq osq;have iq:=hide (H.out.1.later b5);clear b5 k0 k1 k2 k3;go_wp2_with (at_builtin;refine iq.out.append ⟨max a.lo b.lo,min a.hi b.hi⟩ _ rfl (by omega) rfl (.tmp 43) (.tmp 47) rfl acc.length rfl rfl rfl ?_;intro g6 c6 w6 O6);have lN:=hide O6;clear O6
      have LH:(acc++[(⟨max a.lo b.lo,min a.hi b.hi⟩:Rn)]).length=acc.length+1:=by simp
      have k1:=cell_regrown ((lN.out.below.cell (World.block_lt_of_cell? _ _ pg.out)).trans pg.out);have k3:=cell_regrown ((lN.out.below.cell (World.block_lt_of_cell? _ _ ue.out)).trans ue.out);refine wp_region_quiet_below (by kernel_rfl) (by kernel_rfl) ?_
      repeat (with_reducible (refine wpQuiet_step ?_);intro K hK;go_simp;(try rw [if_neg (by unfold undef;simp)]);first | (with_reducible (refine hK _ ?_);clear hK K) | (apply Exists.intro;refine ⟨fun _=>?_,hK _ ?_⟩;(fail);clear hK K))
      with_reducible (refine wpQuiet_nil ?_)
      intro w8 hw';obtain ⟨⟨dq,osq⟩,hw''⟩:=hw'
      have b8:Below w6.heap.size w6 w8:=by rw [hw''];exact below_regrown w6 dq osq
      clear hw'' dq osq;have fD:=hide (lN.out.later b8);clear b8 k1 k3
      have HM:Hid (met acc a b=acc++[⟨max a.lo b.lo,min a.hi b.hi⟩]):=by show _=_;unfold met;rw [if_pos (by omega)]
      have HN:=hide (H.out.2.right (by omega));rw [HM.out] at HN;go_wp2_with fail;go_roundw
      case rel=>exact ⟨some ⟨bx,ox,none⟩,nx,cx,a :: xs,if cy=1 then some ⟨by_,oy,none⟩ else some ⟨by_,oy+2,none⟩,ny - 1,cy - 1,ys,some ⟨g6,0,none⟩,c6,acc++[⟨max a.lo b.lo,min a.hi b.hi⟩],rfl,rfl,by simp,ng.out,sL.out.tail',fD.out,HN.out⟩
      case measure=>simp [ii];omega
    ·by_cases ak:a.hi < b.hi
     ·go_wp2_with fail;refine wp_region_quiet_below (by kernel_rfl) (by kernel_rfl) ?_
      repeat (with_reducible (refine wpQuiet_step ?_);intro K hK;go_simp;(try rw [if_neg (by unfold undef;simp)]);first | (with_reducible (refine hK _ ?_);clear hK K) | (apply Exists.intro;refine ⟨fun _=>?_,hK _ ?_⟩;(fail);clear hK K))
      with_reducible (refine wpQuiet_nil ?_)
      intro w5 hw';obtain ⟨⟨dq,osq⟩,hw''⟩:=hw'
      have b5:Below w4.heap.size w4 w5:=by rw [hw''];exact below_regrown w4 dq osq
      clear hw'' dq osq;have iq:=hide (H.out.1.later b5);clear b5 k0 k1 k2 k3;go_wp2_with fail;have k1:=cell_regrown ((iq.out.below.cell (World.block_lt_of_cell? _ _ pg.out)).trans pg.out);have k3:=cell_regrown ((iq.out.below.cell (World.block_lt_of_cell? _ _ ue.out)).trans ue.out);refine wp_region_quiet_below (by kernel_rfl) (by kernel_rfl) ?_
      repeat (with_reducible (refine wpQuiet_step ?_);intro K hK;go_simp;(try rw [if_neg (by unfold undef;simp)]);first | (with_reducible (refine hK _ ?_);clear hK K) | (apply Exists.intro;refine ⟨fun _=>?_,hK _ ?_⟩;(fail);clear hK K))
      with_reducible (refine wpQuiet_nil ?_)
      intro w8 hw';obtain ⟨⟨dq,osq⟩,hw''⟩:=hw'
      have b8:Below w5.heap.size w5 w8:=by rw [hw''];exact below_regrown w5 dq osq
      clear hw'' dq osq;have fD:=hide (iq.out.later b8);clear b8 k1 k3
      have HM:Hid (met acc a b=acc):=by show _=_;unfold met;rw [if_neg (by omega)]
      have HN:=hide (H.out.2.left (by omega));rw [HM.out] at HN;go_wp2_with fail;go_roundw
      case rel=>exact ⟨if cx=1 then some ⟨bx,ox,none⟩ else some ⟨bx,ox+2,none⟩,nx - 1,cx - 1,xs,some ⟨by_,oy,none⟩,ny,cy,b :: ys,ap,c,acc,rfl,rfl,rfl,ng.out.tail',sL.out,fD.out,HN.out⟩
      case measure=>simp [ii];omega
     ·go_wp2_with fail;refine wp_region_quiet_below (by kernel_rfl) (by kernel_rfl) ?_
      repeat (with_reducible (refine wpQuiet_step ?_);intro K hK;go_simp;(try rw [if_neg (by unfold undef;simp)]);first | (with_reducible (refine hK _ ?_);clear hK K) | (apply Exists.intro;refine ⟨fun _=>?_,hK _ ?_⟩;(fail);clear hK K))
      with_reducible (refine wpQuiet_nil ?_)
      intro w5 hw';obtain ⟨⟨dq,osq⟩,hw''⟩:=hw'
      have b5:Below w4.heap.size w4 w5:=by rw [hw''];exact below_regrown w4 dq osq
      clear hw'' dq osq;have iq:=hide (H.out.1.later b5);clear b5 k0 k1 k2 k3;go_wp2_with fail;have k1:=cell_regrown ((iq.out.below.cell (World.block_lt_of_cell? _ _ pg.out)).trans pg.out);have k3:=cell_regrown ((iq.out.below.cell (World.block_lt_of_cell? _ _ ue.out)).trans ue.out);refine wp_region_quiet_below (by kernel_rfl) (by kernel_rfl) ?_
      repeat (with_reducible (refine wpQuiet_step ?_);intro K hK;go_simp;(try rw [if_neg (by unfold undef;simp)]);first | (with_reducible (refine hK _ ?_);clear hK K) | (apply Exists.intro;refine ⟨fun _=>?_,hK _ ?_⟩;(fail);clear hK K))
      with_reducible (refine wpQuiet_nil ?_)
      intro w8 hw';obtain ⟨⟨dq,osq⟩,hw''⟩:=hw'
      have b8:Below w5.heap.size w5 w8:=by rw [hw''];exact below_regrown w5 dq osq
      clear hw'' dq osq;have fD:=hide (iq.out.later b8);clear b8 k1 k3
      have HM:Hid (met acc a b=acc):=by show _=_;unfold met;rw [if_neg (by omega)]
      have HN:=hide (H.out.2.right (by omega));rw [HM.out] at HN;go_wp2_with fail;go_roundw
      case rel=>exact ⟨some ⟨bx,ox,none⟩,nx,cx,a :: xs,if cy=1 then some ⟨by_,oy,none⟩ else some ⟨by_,oy+2,none⟩,ny - 1,cy - 1,ys,ap,c,acc,rfl,rfl,rfl,ng.out,sL.out.tail',fD.out,HN.out⟩
      case measure=>simp [ii];omega
   ·obtain rfl:ny=0:=by omega
    have hy:y'=[]:=List.eq_nil_of_length_eq_zero sL.out.len;have HD:=hide (H.out.2.done (Or.inr hy) fA.out lR.out);obtain ⟨S4,F4⟩:=H.out.1.src (by omega);have HN:Hid (dC w w4 (.returned (.slice ap acc.length c)) (dV A B)):=⟨ap,acc.length,c,acc,rfl,S4,cg.out.trans (H.out.1.below.mono cg.out.size),(fun ad h=>Nat.le_trans cg.out.size (F4 ad h)),HD.out⟩;clear S4 F4;go_wp2_with fail;go_ret;exact HN.out
  ·obtain rfl:nx=0:=by omega
   have hx:x'=[]:=List.eq_nil_of_length_eq_zero ng.out.len;have HD:=hide (H.out.2.done (Or.inl hx) fA.out lR.out);obtain ⟨S4,F4⟩:=H.out.1.src (by omega);have HN:Hid (dC w w4 (.returned (.slice ap acc.length c)) (dV A B)):=⟨ap,acc.length,c,acc,rfl,S4,cg.out.trans (H.out.1.below.mono cg.out.size),(fun ad h=>Nat.le_trans cg.out.size (F4 ad h)),HD.out⟩;clear S4 F4;go_wp2_with fail;go_ret;exact HN.out
end
section
open Go.RowKit
attribute [local go_sem ↓] kM ky
attribute [local go_sem] zS zC zN ql zaF
theorem dI.append2 {B0 B:Nat} {w w':World} {ao:Option Addr} {cap:Nat} {acc:List Rn} (O:dI B0 B w w' ao cap acc) (e:Rn) (C:Array Value) (hC:C=RC e) (cF:acc.length < 8796093022207)
  {ops:Array Oper} {rest:List Oper} {o:Oper} {a:Act} {Q:Exit -> Act -> World -> Prop} (hgd:o.guard=none) (s x:Operand) (ho:o.op = .call { callee:=.builtin .append,args:=#[s,x],argTypes:=#[134,134] })
  (n:Nat) (hn:acc.length=n) (hs:a.eval s = .slice ao n cap) (hx:a.eval x = .slice (some ⟨w'.heap.size,0,none⟩) 1 1)
  (hK:∀ (g cap2:Nat) (w2:World),dI B0 B w w2 (some ⟨g,0,none⟩) cap2 (acc++[e]) -> (∀ k,k < w'.heap.size -> (∀ ad,ao=some ad -> ad.block≠k) -> w2.heap[k]? = w'.heap[k]?) -> wpList Tryz.prog ops Q rest (a.put o.dst (.slice (some ⟨g,0,none⟩) (n+1) cap2)) w2) :
  wpList Tryz.prog ops Q (o :: rest) a (w'.alloc (.cells C 182)):=by
 subst hn hC;obtain ⟨i0,hi,dg,dn,ee⟩:=info_parts rE;have hB:=O.hB;have hB0:=O.hB0;refine wpList_append_own _ hgd s x 134 ho B 182 i0 (.agg #[.int .i64 0,.int .i64 0]) 2 16 Tryz.underlying134 hi dg dn ee rfl (by decide) _ acc.length (rcs acc) hs (O.own.alloc _) ⟨w'.heap.size,0,none⟩ 1 1 (RC e).toList hx (by simp [RC]) ?_ ?_ (by unfold maxLen;omega) (by omega) (by simp;omega) ?_
 ·intro j u hj;rw [Addr.add_lit,Nat.zero_add,World.cell?_alloc_new];simpa using hj
 ·intro u hu;exact jX e u hu
 ·intro v' w2 aM az _;rcases aM.2 with ⟨h0,fh⟩ | ⟨g,cap2,cur,hv,r⟩
  ·omega
  ·subst hv;have dx:∀ k,(Value.slice ao acc.length cap).ownBlock=some k -> B <= k:=fun k hk=>(O.own.lt k hk).1;have dP:=az.size;rw [World.size_alloc] at dP;refine hK g cap2 w2 ⟨?_,(O.below.alloc (by omega) _).grown az (by simp;omega) (fun k hk=>by have:=dx k hk;omega),by omega,hB0⟩ (fun k hk ch=>?_)
   ·rw [List.length_append,xr,ki];exact aM
   ·rw [az.block k (by simp;omega) (fun e=>by
     cases ao with
     | none=>simp [Value.ownBlock] at e
     | some ad=>simp [Value.ownBlock] at e;exact ch ad rfl e.symm)]
    exact Below.heap_alloc _ _ _ (by omega)
theorem dI.under {B0 B:Nat} {w w':World} {ao:Option Addr} {cap:Nat} {acc:List Rn} (O:dI B0 B w w' ao cap acc):∀ ad,ao=some ad -> ad.block < w'.heap.size:=fun ad h=>by
 subst h;exact (O.own.lt ad.block (by simp [Value.ownBlock])).2
theorem vh {w w2:World} {a:Addr} (h:w2.heap[a.block]? = w.heap[a.block]?):w2.cell? a=w.cell? a:=by
 unfold World.cell?;rw [h]

theorem zbF (ao:Option Addr) (n cap:Nat) (A:List Rn) (w:World) (hS:aX w ao n cap A) :
  Calls Tryz.prog 213 #[.slice ao n cap] w fun e w'=>iV w w' e (mH A):=by
 have HS:=hide hS;clear hS;go_enter Tryz.func213,Tryz.ntmps213;go_wp2_with fail;refine (wh ao n cap A _ HS.out).mono ?_;rintro e w1 ⟨a1,n1,c1,X,rfl,S1,b1,p1⟩;have dm:=hide S1;have fA:=hide p1;have aN:=hide b1;have HL:Hid (X.length=n1):=S1.len;have hn:=S1.big;clear S1 b1 p1;go_wp2_with fail;go_loopw [3,4,6,10] (fun o v _ i wr=>∃ (k:Nat) (nx:Int) (ap:Option Addr) (c:Nat) (acc:List Rn),k <= n1/\o = .slice ap acc.length c/\v = .int .i64 nx/\i = .int .i64 k/\Hid (gu (X.take k) (X.drop k) acc nx/\dI w1.heap.size w1.heap.size w1 wr ap c acc)) (fun _ _ _ i _=>n1 - (intOf i).toNat)
 case atStart=>exact ⟨0,1,none,0,[],Nat.zero_le _,rfl,rfl,rfl,gu.start fA.out.1,dI.nil (Below.refl _ _) (Nat.le_refl _) (Nat.le_refl _)⟩
 case round =>
  obtain ⟨k,nx,ap,c,acc,hk,rfl,rfl,rfl,H⟩:=hrel
  rename World=>w4
  have nq:=xt (Int.le_refl _) H.out.1.frm;by_cases ak:k < n1
  ·obtain ⟨ad,rfl,A0⟩:=(dm.out.below H.out.2.below).at k ak;have dK:=jg A0;obtain ⟨r,Hr⟩:∃ r,Hid (X.getD k rn0=r):=⟨_,rfl⟩;rw [Hr.out] at dK
   have mu:k < X.length:=by rw [HL.out];exact ak
   have tY:X[k]=r:=by rw [<- Hr.out];simp [List.getD,mu]
   have HD:Hid (X.drop k=r :: X.drop (k+1)):=by show _=_;rw [List.drop_eq_getElem_cons mu,tY]
   have HT:Hid (X.take (k+1)=X.take k++[r]):=by show _=_;rw [List.take_succ_eq_append_getElem mu,tY]
   have I0:=H.out.1;rw [HD.out] at I0;have HI:=hide I0;have HN:=hide I0.step;rw [<- HT.out] at HN;have f1:=I0.rest.1;have f2:=I0.rest.2.1;have f3:=I0.rest.2.2.1;have f4:=I0.lo;clear I0 tY mu;obtain ⟨w5,a8,X5,B5,Z5⟩:=made w4 r w4.heap.size rfl;have iq:=hide (H.out.2.later B5);have c0:=X5.at.c0;have k1:w5.cell? ⟨w4.heap.size,1,none⟩=some (.int .i64 r.hi):=X5.at.c1;have i7:=hide X5;have hu:=H.out.2.under
   have HU:Hid (∀ ad,ap=some ad -> ad.block≠w4.heap.size):=fun ad h=>by have:=hu ad h;omega
   have HW:Hid (w4.heap.size < w5.heap.size):=X5.lt;clear A0 X5 B5 Z5 hu
   have mo:IntKind.i64.wrap (r.lo - 1)=r.lo - 1:=by rw [IntKind.wrap_i64];omega
   have mv:IntKind.i64.wrap (r.hi+1)=r.hi+1:=by rw [IntKind.wrap_i64];omega
   by_cases hc:nx < r.lo
   ·have HM:Hid (gE acc nx r.lo=acc++[⟨nx,r.lo - 1⟩]):=by show _=_;unfold gE;rw [if_pos hc]
    rw [HM.out] at HN;go_wp2_with (at_builtin;refine iq.out.append2 ⟨nx,r.lo - 1⟩ _ rfl (by omega) rfl (.tmp 18) (.tmp 24) rfl acc.length rfl rfl rfl ?_;intro g6 c6 w6 O6 K6;have k6:w6.cell? ⟨w4.heap.size,1,none⟩=some (.int .i64 r.hi):=(vh (K6 _ HW.out HU.out)).trans k1;clear K6);go_roundw
    case rel=>exact ⟨k+1,r.hi+1,some ⟨g6,0,none⟩,c6,acc++[⟨nx,r.lo - 1⟩],by omega,by simp,by go_num,by go_num,HN.out,O6⟩
    case measure=>simp [intOf];omega
   ·have HM:Hid (gE acc nx r.lo=acc):=by show _=_;unfold gE;rw [if_neg hc]
    rw [HM.out] at HN;go_wp2_with fail;go_roundw
    case rel=>exact ⟨k+1,r.hi+1,ap,c,acc,by omega,rfl,by go_num,by go_num,HN.out,iq.out⟩
    case measure=>simp [intOf];omega
  ·obtain rfl:k=n1:=by omega
   have HT:Hid (X.take k=X/\X.drop k=[]):=⟨List.take_of_length_le (by rw [HL.out];exact Nat.le_refl _),List.drop_eq_nil_of_le (by rw [HL.out];exact Nat.le_refl _)⟩;have I0:=H.out.1;rw [HT.out.1,HT.out.2] at I0;have HD:=hide (I0.done fA.out);have f4:=I0.lo;have f5:=I0.hi;clear I0;by_cases hc:nx <= 1000000000
   ·have HM:Hid (gE acc nx 1000000001=acc++[⟨nx,1000000000⟩]):=by show _=_;unfold gE;rw [if_pos (by omega)];rfl
    rw [HM.out] at HD;have Fj:=hide H.out.2;go_wp2_with (at_builtin;refine Fj.out.append ⟨nx,1000000000⟩ _ rfl (by omega) rfl (.tmp 32) (.tmp 35) rfl acc.length rfl rfl rfl ?_;intro g6 c6 w6 O6);obtain ⟨S6,F6⟩:=O6.src (by simp;omega);have HN:Hid (iV w w6 (.returned (.slice (some ⟨g6,0,none⟩) (acc.length+1) c6)) (mH A)):=⟨_,_,c6,_,rfl,by simpa using S6,aN.out.trans (O6.below.mono aN.out.size),HD.out⟩;clear S6 F6 O6;go_ret;exact HN.out
   ·have HM:Hid (gE acc nx 1000000001=acc):=by show _=_;unfold gE;rw [if_neg (by omega)]
    rw [HM.out] at HD;obtain ⟨S4,F4⟩:=H.out.2.src (by omega);have HN:Hid (iV w w4 (.returned (.slice ap acc.length c)) (mH A)):=⟨ap,acc.length,c,acc,rfl,S4,aN.out.trans (H.out.2.below.mono aN.out.size),HD.out⟩;clear S4 F4;go_wp2_with fail;go_ret;exact HN.out
theorem zeC (ao bo:Option Addr) (n cap m cap':Nat) (A B:List Rn) (w:World) (hS:aX w ao n cap A) (hR:aX w bo m cap' B) :
  Calls Tryz.prog 174 #[.slice ao n cap,.slice bo m cap'] w fun e w'=>dC w w' e (cH A B):=by
 have HS:=hide hS;have HR:=hide hR;clear hS hR;go_enter Tryz.func174,Tryz.ntmps174;go_wp2_with fail;refine (zbF bo m cap' B _ HR.out).mono ?_;rintro e w1 ⟨a1,n1,c1,O,rfl,S1,b1,p1⟩;have dm:=hide S1;have fA:=hide p1;have aN:=hide b1;clear S1 b1 p1;go_wp2_with fail;refine (zcH ao a1 n cap n1 c1 A O _ (HS.out.below aN.out) dm.out).mono ?_;rintro e w2 ⟨a2,n2,c2,R,rfl,S2,b2,f2,p2⟩;have HF:Hid (dC w w2 (.returned (.slice a2 n2 c2)) (cH A B)):=⟨a2,n2,c2,R,rfl,S2,aN.out.trans (b2.mono aN.out.size),(fun ad h=>Nat.le_trans aN.out.size (f2 ad h)),zgg fA.out p2⟩;clear S2 b2 f2 p2;go_wp2_with fail;go_ret;exact HF.out
end
section
open Go.RowKit
attribute [local go_sem ↓] kM ky
attribute [local go_sem] zS zC zN ql zaF
def Wth (A B:List Rn) (b:Bool):Prop:=b=true↔∀ n,mem A n -> mem B n
end
section
open Go.RowKit
attribute [local go_sem ↓] zq zp vM vJ
attribute [local go_sem] x6 xj zE zi qm zj qJ
theorem bm:(SA fun _=>sl0)=SA iZ:=rfl
attribute [local go_sem] bm
end
end Go.Proofs.YtjffpimfngdggaaGreat
