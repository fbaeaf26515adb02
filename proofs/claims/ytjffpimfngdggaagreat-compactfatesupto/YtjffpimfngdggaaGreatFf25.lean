/- RMt ROs RWi PWi -/
import Derived.Test.YtjffpimfngdggaaGreatFf10
import Derived.Deep.RegionHeld3
set_option maxRecDepth 100000
set_option maxHeartbeats 8000000
namespace Go.Proofs.YtjffpimfngdggaaGreat
section
open Go.RowKit
attribute [local go_sem ↓] kV kG
attribute [local go_sem] zR zz zM qp
theorem za0 (x y:Int):((RC rn0).setIfInBounds 0 (.int .i64 x)).setIfInBounds 1 (.int .i64 y)=RC ⟨x,y⟩:=rfl
attribute [local go_sem] za0
def iD:Value -> Nat
 | .slice _ n _=>n
 | _=>0
theorem zdb (ao bo:Option Addr) (n cap m cap':Nat) (A B:List Rn) (w:World) (hS:aV w ao n cap A) (hR:aV w bo m cap' B) :
  Calls Tryz.prog 150 #[.slice ao n cap,.slice bo m cap'] w fun e w'=>dL w w' e (ey A B):=by
 have HS:=hide hS;have HR:=hide hR;clear hS hR;go_enter Tryz.func150,Tryz.ntmps150;go_wp2_with fail;refine (wv ao n cap A _ HS.out).mono ?_;rintro e w1 ⟨a1,n1,c1,X,rfl,S1,b1,p1⟩;have dg:=hide S1;have fZ:=hide p1;have aM:=hide b1;clear S1 b1 p1;go_wp2_with fail;refine (wv bo m cap' B _ (HR.out.below aM.out)).mono ?_;rintro e w2 ⟨a2,n2,c2,Y,rfl,S2,b2,p2⟩;have dZ:=hide S2;have mi:=hide p2;have Hn:=hide (dg.out.below b2);have cu:=wTr aM b2;clear S2 b2 p2 dg aM;go_wp2_with fail;go_loopw [5,6,7,8,9] (fun u v o _ _ wr=>∃ (ax:Option Addr) (nx cx:Nat) (x':List Rn) (ay:Option Addr) (ny cy:Nat) (y':List Rn) (ap:Option Addr) (c:Nat) (acc:List Rn),u = .slice ax nx cx/\v = .slice ay ny cy/\o = .slice ap acc.length c/\aV w2 ax nx cx x'/\aV w2 ay ny cy y'/\dS w2.heap.size w2.heap.size w2 wr ap c acc/\eW X Y x' y' acc) (fun u v _ _ _ _=>iD u+iD v)
 case atStart=>exact ⟨a1,n1,c1,X,a2,n2,c2,Y,none,0,[],rfl,rfl,rfl,Hn.out,dZ.out,dS.nil (Below.refl _ _) (Nat.le_refl _) (Nat.le_refl _),eW.start fZ.out.1 mi.out.1⟩
 case round =>
  obtain ⟨ax,nx,cx,x',ay,ny,cy,y',ap,c,acc,rfl,rfl,rfl,SX,SY,O,I⟩:=hrel
  rename World=>w4
  have H:Hid (dS w2.heap.size w2.heap.size w2 w4 ap c acc/\eW X Y x' y' acc):=⟨O,I⟩;have oF:=hide SX;have tP:=hide SY;have nJ:=qT (Int.le_refl _) I.frm;have Ox:=SX.cap;have OQ:=SY.cap;have Oc:=SX.room;have NA:=SY.room;unfold maxLen at Oc NA;clear SX SY O I;by_cases h1:0 < nx
  ·by_cases h2:0 < ny
   ·obtain ⟨adx,rfl,_⟩:=oF.out.at 0 h1;obtain ⟨ady,rfl,_⟩:=tP.out.at 0 h2;obtain ⟨bx,ox,rfl⟩:=oF.out.spot h1;obtain ⟨by_,oy,rfl⟩:=tP.out.spot h2
    obtain ⟨a,xs,rfl⟩:∃ a xs,x'=a :: xs:=by
     have:=oF.out.len
     cases x' with
     | nil=>simp at this;omega
     | cons a xs=>exact ⟨a,xs,rfl⟩
    obtain ⟨b,ys,rfl⟩:∃ b ys,y'=b :: ys:=by
     have:=tP.out.len
     cases y' with
     | nil=>simp at this;omega
     | cons b ys=>exact ⟨b,ys,rfl⟩
    obtain ⟨q0,q1⟩:=oF.out.nums 0 h1;obtain ⟨q2,q3⟩:=tP.out.nums 0 h2;simp [List.getD] at q0 q1 q2 q3;have mj:=hide q1;have uY:=hide q3;have k0:=cell_regrown ((H.out.1.below.cell (World.block_lt_of_cell? _ _ q0)).trans q0);have k1:=cell_regrown ((H.out.1.below.cell (World.block_lt_of_cell? _ _ q1)).trans q1);have k2:=cell_regrown ((H.out.1.below.cell (World.block_lt_of_cell? _ _ q2)).trans q2);have k3:=cell_regrown ((H.out.1.below.cell (World.block_lt_of_cell? _ _ q3)).trans q3);clear q0 q1 q2 q3;by_cases iV:max a.lo b.lo <= min a.hi b.hi
    ·by_cases ak:a.hi < b.hi
     ·go_wp2_with fail;refine wp_region_quiet_below (by kernel_rfl) (by kernel_rfl) ?_
      repeat (with_reducible (refine wpQuiet_step ?_);intro K hK;go_simp;(try rw [if_neg (by unfold undef;simp)]);first | (with_reducible (refine hK _ ?_);clear hK K) | (apply Exists.intro;refine ⟨fun _=>?_,hK _ ?_⟩;(fail);clear hK K))
      with_reducible (refine wpQuiet_nil ?_)
      intro w5 hw';obtain ⟨⟨dq,osq⟩,hw''⟩:=hw'
      have b5:Below w4.heap.size w4 w5:=by rw [hw''];exact below_regrown w4 dq osq
      clear hw'' dq osq;have gv:=hide (H.out.1.later b5);clear b5 k0 k1 k2 k3;go_wp2_with (at_builtin;refine gv.out.append ⟨max a.lo b.lo,min a.hi b.hi⟩ _ rfl (by omega) rfl (.tmp 43) (.tmp 47) rfl acc.length rfl rfl rfl ?_;intro g6 c6 w6 O6);have iJ:=hide O6;clear O6
      have NM:(acc++[(⟨max a.lo b.lo,min a.hi b.hi⟩:Rn)]).length=acc.length+1:=by simp
      have k1:=cell_regrown ((iJ.out.below.cell (World.block_lt_of_cell? _ _ mj.out)).trans mj.out);have k3:=cell_regrown ((iJ.out.below.cell (World.block_lt_of_cell? _ _ uY.out)).trans uY.out);refine wp_region_quiet_below (by kernel_rfl) (by kernel_rfl) ?_
      repeat (with_reducible (refine wpQuiet_step ?_);intro K hK;go_simp;(try rw [if_neg (by unfold undef;simp)]);first | (with_reducible (refine hK _ ?_);clear hK K) | (apply Exists.intro;refine ⟨fun _=>?_,hK _ ?_⟩;(fail);clear hK K))
      with_reducible (refine wpQuiet_nil ?_)
      intro w8 hw';obtain ⟨⟨dq,osq⟩,hw''⟩:=hw'
      have b8:Below w6.heap.size w6 w8:=by rw [hw''];exact below_regrown w6 dq osq
      clear hw'' dq osq;have eO:=hide (iJ.out.later b8);clear b8 k1 k3
      have HM:Hid (met acc a b=acc++[⟨max a.lo b.lo,min a.hi b.hi⟩]):=by show _=_;unfold met;rw [if_pos (by omega)]
      have HN:=hide (H.out.2.left (by omega));rw [HM.out] at HN;go_wp2_with fail;go_roundw
      case rel=>exact ⟨if cx=1 then some ⟨bx,ox,none⟩ else some ⟨bx,ox+2,none⟩,nx - 1,cx - 1,xs,some ⟨by_,oy,none⟩,ny,cy,b :: ys,some ⟨g6,0,none⟩,c6,acc++[⟨max a.lo b.lo,min a.hi b.hi⟩],rfl,rfl,by simp,oF.out.tail',tP.out,eO.out,HN.out⟩
      case measure=>simp [iD];omega
     ·go_wp2_with fail;refine wp_region_quiet_below (by kernel_rfl) (by kernel_rfl) ?_
      repeat (with_reducible (refine wpQuiet_step ?_);intro K hK;go_simp;(try rw [if_neg (by unfold undef;simp)]);first | (with_reducible (refine hK _ ?_);clear hK K) | (apply Exists.intro;refine ⟨fun _=>?_,hK _ ?_⟩;(fail);clear hK K))
      with_reducible (refine wpQuiet_nil ?_)
      intro w5 hw';obtain ⟨⟨dq,osq⟩,hw''⟩:=hw'
      have b5:Below w4.heap.size w4 w5:=by rw [hw''];exact below_regrown w4 dq osq
      clear hw'' dq osq;have gv:=hide (H.out.1.later b5);clear b5 k0 k1 k2 k3;go_wp2_with (at_builtin;refine gv.out.append ⟨max a.lo b.lo,min a.hi b.hi⟩ _ rfl (by omega) rfl (.tmp 43) (.tmp 47) rfl acc.length rfl rfl rfl ?_;intro g6 c6 w6 O6);have iJ:=hide O6;clear O6
      have NM:(acc++[(⟨max a.lo b.lo,min a.hi b.hi⟩:Rn)]).length=acc.length+1:=by simp
      have k1:=cell_regrown ((iJ.out.below.cell (World.block_lt_of_cell? _ _ mj.out)).trans mj.out);have k3:=cell_regrown ((iJ.out.below.cell (World.block_lt_of_cell? _ _ uY.out)).trans uY.out);refine wp_region_quiet_below (by kernel_rfl) (by kernel_rfl) ?_
      repeat (with_reducible (refine wpQuiet_step ?_);intro K hK;go_simp;(try rw [if_neg (by unfold undef;simp)]);first | (with_reducible (refine hK _ ?_);clear hK K) | (apply Exists.intro;refine ⟨fun _=>?_,hK _ ?_⟩;(fail);clear hK K))
      with_reducible (refine wpQuiet_nil ?_)
      intro w8 hw';obtain ⟨⟨dq,osq⟩,hw''⟩:=hw'
      have b8:Below w6.heap.size w6 w8:=by rw [hw''];exact below_regrown w6 dq osq
      clear hw'' dq osq;have eO:=hide (iJ.out.later b8);clear b8 k1 k3
      have HM:Hid (met acc a b=acc++[⟨max a.lo b.lo,min a.hi b.hi⟩]):=by show _=_;unfold met;rw [if_pos (by omega)]
      have HN:=hide (H.out.2.right (by omega));rw [HM.out] at HN;go_wp2_with fail;go_roundw
      case rel=>exact ⟨some ⟨bx,ox,none⟩,nx,cx,a :: xs,if cy=1 then some ⟨by_,oy,none⟩ else some ⟨by_,oy+2,none⟩,ny - 1,cy - 1,ys,some ⟨g6,0,none⟩,c6,acc++[⟨max a.lo b.lo,min a.hi b.hi⟩],rfl,rfl,by simp,oF.out,tP.out.tail',eO.out,HN.out⟩
      case measure=>simp [iD];omega
    ·by_cases ak:a.hi < b.hi
     ·go_wp2_with fail;refine wp_region_quiet_below (by kernel_rfl) (by kernel_rfl) ?_
      repeat (with_reducible (refine wpQuiet_step ?_);intro K hK;go_simp;(try rw [if_neg (by unfold undef;simp)]);first | (with_reducible (refine hK _ ?_);clear hK K) | (apply Exists.intro;refine ⟨fun _=>?_,hK _ ?_⟩;(fail);clear hK K))
      with_reducible (refine wpQuiet_nil ?_)
      intro w5 hw';obtain ⟨⟨dq,osq⟩,hw''⟩:=hw'
      have b5:Below w4.heap.size w4 w5:=by rw [hw''];exact below_regrown w4 dq osq
      clear hw'' dq osq;have gv:=hide (H.out.1.later b5);clear b5 k0 k1 k2 k3;go_wp2_with fail;have k1:=cell_regrown ((gv.out.below.cell (World.block_lt_of_cell? _ _ mj.out)).trans mj.out);have k3:=cell_regrown ((gv.out.below.cell (World.block_lt_of_cell? _ _ uY.out)).trans uY.out);refine wp_region_quiet_below (by kernel_rfl) (by kernel_rfl) ?_
      repeat (with_reducible (refine wpQuiet_step ?_);intro K hK;go_simp;(try rw [if_neg (by unfold undef;simp)]);first | (with_reducible (refine hK _ ?_);clear hK K) | (apply Exists.intro;refine ⟨fun _=>?_,hK _ ?_⟩;(fail);clear hK K))
      with_reducible (refine wpQuiet_nil ?_)
      intro w8 hw';obtain ⟨⟨dq,osq⟩,hw''⟩:=hw'
      have b8:Below w5.heap.size w5 w8:=by rw [hw''];exact below_regrown w5 dq osq
      clear hw'' dq osq;have eO:=hide (gv.out.later b8);clear b8 k1 k3
      have HM:Hid (met acc a b=acc):=by show _=_;unfold met;rw [if_neg (by omega)]
      have HN:=hide (H.out.2.left (by omega));rw [HM.out] at HN;go_wp2_with fail;go_roundw
      case rel=>exact ⟨if cx=1 then some ⟨bx,ox,none⟩ else some ⟨bx,ox+2,none⟩,nx - 1,cx - 1,xs,some ⟨by_,oy,none⟩,ny,cy,b :: ys,ap,c,acc,rfl,rfl,rfl,oF.out.tail',tP.out,eO.out,HN.out⟩
      case measure=>simp [iD];omega
     ·go_wp2_with fail;refine wp_region_quiet_below (by kernel_rfl) (by kernel_rfl) ?_
      repeat (with_reducible (refine wpQuiet_step ?_);intro K hK;go_simp;(try rw [if_neg (by unfold undef;simp)]);first | (with_reducible (refine hK _ ?_);clear hK K) | (apply Exists.intro;refine ⟨fun _=>?_,hK _ ?_⟩;(fail);clear hK K))
      with_reducible (refine wpQuiet_nil ?_)
      intro w5 hw';obtain ⟨⟨dq,osq⟩,hw''⟩:=hw'
      have b5:Below w4.heap.size w4 w5:=by rw [hw''];exact below_regrown w4 dq osq
      clear hw'' dq osq;have gv:=hide (H.out.1.later b5);clear b5 k0 k1 k2 k3;go_wp2_with fail;have k1:=cell_regrown ((gv.out.below.cell (World.block_lt_of_cell? _ _ mj.out)).trans mj.out);have k3:=cell_regrown ((gv.out.below.cell (World.block_lt_of_cell? _ _ uY.out)).trans uY.out);refine wp_region_quiet_below (by kernel_rfl) (by kernel_rfl) ?_
      repeat (with_reducible (refine wpQuiet_step ?_);intro K hK;go_simp;(try rw [if_neg (by unfold undef;simp)]);first | (with_reducible (refine hK _ ?_);clear hK K) | (apply Exists.intro;refine ⟨fun _=>?_,hK _ ?_⟩;(fail);clear hK K))
      with_reducible (refine wpQuiet_nil ?_)
      intro w8 hw';obtain ⟨⟨dq,osq⟩,hw''⟩:=hw'
      have b8:Below w5.heap.size w5 w8:=by rw [hw''];exact below_regrown w5 dq osq
      clear hw'' dq osq;have eO:=hide (gv.out.later b8);clear b8 k1 k3
      have HM:Hid (met acc a b=acc):=by show _=_;unfold met;rw [if_neg (by omega)]
      have HN:=hide (H.out.2.right (by omega));rw [HM.out] at HN;go_wp2_with fail;go_roundw
      case rel=>exact ⟨some ⟨bx,ox,none⟩,nx,cx,a :: xs,if cy=1 then some ⟨by_,oy,none⟩ else some ⟨by_,oy+2,none⟩,ny - 1,cy - 1,ys,ap,c,acc,rfl,rfl,rfl,oF.out,tP.out.tail',eO.out,HN.out⟩
      case measure=>simp [iD];omega
   ·obtain rfl:ny=0:=by omega
    have hy:y'=[]:=List.eq_nil_of_length_eq_zero tP.out.len;have HD:=hide (H.out.2.done (Or.inr hy) fZ.out mi.out);obtain ⟨S4,F4⟩:=H.out.1.src (by omega);have HN:Hid (dL w w4 (.returned (.slice ap acc.length c)) (ey A B)):=⟨ap,acc.length,c,acc,rfl,S4,cu.out.trans (H.out.1.below.mono cu.out.size),(fun ad h=>Nat.le_trans cu.out.size (F4 ad h)),HD.out⟩;clear S4 F4;go_wp2_with fail;go_ret;exact HN.out
  ·obtain rfl:nx=0:=by omega
   have hx:x'=[]:=List.eq_nil_of_length_eq_zero oF.out.len;have HD:=hide (H.out.2.done (Or.inl hx) fZ.out mi.out);obtain ⟨S4,F4⟩:=H.out.1.src (by omega);have HN:Hid (dL w w4 (.returned (.slice ap acc.length c)) (ey A B)):=⟨ap,acc.length,c,acc,rfl,S4,cu.out.trans (H.out.1.below.mono cu.out.size),(fun ad h=>Nat.le_trans cu.out.size (F4 ad h)),HD.out⟩;clear S4 F4;go_wp2_with fail;go_ret;exact HN.out
end
section
open Go.RowKit
attribute [local go_sem ↓] kV kG
attribute [local go_sem] zR zz zM qp za0
theorem dS.append2 {B0 B:Nat} {w w':World} {ao:Option Addr} {cap:Nat} {acc:List Rn} (O:dS B0 B w w' ao cap acc) (e:Rn) (C:Array Value) (hC:C=RC e) (cJ:acc.length < 8796093022207)
  {ops:Array Oper} {rest:List Oper} {o:Oper} {a:Act} {Q:Exit -> Act -> World -> Prop} (hgd:o.guard=none) (s x:Operand) (ho:o.op = .call { callee:=.builtin .append,args:=#[s,x],argTypes:=#[134,134] })
  (n:Nat) (hn:acc.length=n) (hs:a.eval s = .slice ao n cap) (hx:a.eval x = .slice (some ⟨w'.heap.size,0,none⟩) 1 1)
  (hK:∀ (g cap2:Nat) (w2:World),dS B0 B w w2 (some ⟨g,0,none⟩) cap2 (acc++[e]) -> (∀ k,k < w'.heap.size -> (∀ ad,ao=some ad -> ad.block≠k) -> w2.heap[k]? = w'.heap[k]?) -> wpList Tryz.prog ops Q rest (a.put o.dst (.slice (some ⟨g,0,none⟩) (n+1) cap2)) w2) :
  wpList Tryz.prog ops Q (o :: rest) a (w'.alloc (.cells C 182)):=by
 subst hn hC;obtain ⟨i0,hi,cY,dw,eI⟩:=info_parts sQ;have hB:=O.hB;have hB0:=O.hB0;refine wpList_append_own _ hgd s x 134 ho B 182 i0 (.agg #[.int .i64 0,.int .i64 0]) 2 16 Tryz.underlying134 hi cY dw eI rfl (by decide) _ acc.length (rcs acc) hs (O.own.alloc _) ⟨w'.heap.size,0,none⟩ 1 1 (RC e).toList hx (by simp [RC]) ?_ ?_ (by unfold maxLen;omega) (by omega) (by simp;omega) ?_
 ·intro j u hj;rw [Addr.add_lit,Nat.zero_add,World.cell?_alloc_new];simpa using hj
 ·intro u hu;exact j7 e u hu
 ·intro v' w2 a7 aC _;rcases a7.2 with ⟨h0,fV⟩ | ⟨g,cap2,cur,hv,r⟩
  ·omega
  ·subst hv;have dH:∀ k,(Value.slice ao acc.length cap).ownBlock=some k -> B <= k:=fun k hk=>(O.own.lt k hk).1;have dE:=aC.size;rw [World.size_alloc] at dE;refine hK g cap2 w2 ⟨?_,(O.below.alloc (by omega) _).grown aC (by simp;omega) (fun k hk=>by have:=dH k hk;omega),by omega,hB0⟩ (fun k hk cr=>?_)
   ·rw [List.length_append,xx,kv];exact a7
   ·rw [aC.block k (by simp;omega) (fun e=>by
     cases ao with
     | none=>simp [Value.ownBlock] at e
     | some ad=>simp [Value.ownBlock] at e;exact cr ad rfl e.symm)]
    exact Below.heap_alloc _ _ _ (by omega)
theorem dS.under {B0 B:Nat} {w w':World} {ao:Option Addr} {cap:Nat} {acc:List Rn} (O:dS B0 B w w' ao cap acc):∀ ad,ao=some ad -> ad.block < w'.heap.size:=fun ad h=>by
 subst h;exact (O.own.lt ad.block (by simp [Value.ownBlock])).2
theorem vw {w w2:World} {a:Addr} (h:w2.heap[a.block]? = w.heap[a.block]?):w2.cell? a=w.cell? a:=by
 unfold World.cell?;rw [h]

theorem zb4 (ao:Option Addr) (n cap:Nat) (A:List Rn) (w:World) (hS:aV w ao n cap A) :
  Calls Tryz.prog 213 #[.slice ao n cap] w fun e w'=>lE w w' e (nz A):=by
 have HS:=hide hS;clear hS;go_enter Tryz.func213,Tryz.ntmps213;go_wp2_with fail;refine (wv ao n cap A _ HS.out).mono ?_;rintro e w1 ⟨a1,n1,c1,X,rfl,S1,b1,p1⟩;have dg:=hide S1;have fZ:=hide p1;have aM:=hide b1;have HL:Hid (X.length=n1):=S1.len;have hn:=S1.big;clear S1 b1 p1;go_wp2_with fail;go_loopw [3,4,6,10] (fun o v _ i wr=>∃ (k:Nat) (nx:Int) (ap:Option Addr) (c:Nat) (acc:List Rn),k <= n1/\o = .slice ap acc.length c/\v = .int .i64 nx/\i = .int .i64 k/\Hid (gP (X.take k) (X.drop k) acc nx/\dS w1.heap.size w1.heap.size w1 wr ap c acc)) (fun _ _ _ i _=>n1 - (intOf i).toNat)
 case atStart=>exact ⟨0,1,none,0,[],Nat.zero_le _,rfl,rfl,rfl,gP.start fZ.out.1,dS.nil (Below.refl _ _) (Nat.le_refl _) (Nat.le_refl _)⟩
 case round =>
  obtain ⟨k,nx,ap,c,acc,hk,rfl,rfl,rfl,H⟩:=hrel
  rename World=>w4
  have nJ:=qT (Int.le_refl _) H.out.1.frm;by_cases ak:k < n1
  ·obtain ⟨ad,rfl,A0⟩:=(dg.out.below H.out.2.below).at k ak;have dF:=jn A0;obtain ⟨r,Hr⟩:∃ r,Hid (X.getD k rn0=r):=⟨_,rfl⟩;rw [Hr.out] at dF
   have nd:k < X.length:=by rw [HL.out];exact ak
   have Ai:X[k]=r:=by rw [<- Hr.out];simp [List.getD,nd]
   have HD:Hid (X.drop k=r :: X.drop (k+1)):=by show _=_;rw [List.drop_eq_getElem_cons nd,Ai]
   have HT:Hid (X.take (k+1)=X.take k++[r]):=by show _=_;rw [List.take_succ_eq_append_getElem nd,Ai]
   have I0:=H.out.1;rw [HD.out] at I0;have HI:=hide I0;have HN:=hide I0.step;rw [<- HT.out] at HN;have f1:=I0.rest.1;have f2:=I0.rest.2.1;have f3:=I0.rest.2.2.1;have f4:=I0.lo;clear I0 Ai nd;obtain ⟨w5,cd,X5,B5,Z5⟩:=made w4 r w4.heap.size rfl;have gv:=hide (H.out.2.later B5);have c0:=X5.at.c0;have k1:w5.cell? ⟨w4.heap.size,1,none⟩=some (.int .i64 r.hi):=X5.at.c1;have gK:=hide X5;have hu:=H.out.2.under
   have HU:Hid (∀ ad,ap=some ad -> ad.block≠w4.heap.size):=fun ad h=>by have:=hu ad h;omega
   have HW:Hid (w4.heap.size < w5.heap.size):=X5.lt;clear A0 X5 B5 Z5 hu
   have iZ:IntKind.i64.wrap (r.lo - 1)=r.lo - 1:=by rw [IntKind.wrap_i64];omega
   have ni:IntKind.i64.wrap (r.hi+1)=r.hi+1:=by rw [IntKind.wrap_i64];omega
   by_cases hc:nx < r.lo
   ·have HM:Hid (gV acc nx r.lo=acc++[⟨nx,r.lo - 1⟩]):=by show _=_;unfold gV;rw [if_pos hc]
    rw [HM.out] at HN;go_wp2_with (at_builtin;refine gv.out.append2 ⟨nx,r.lo - 1⟩ _ rfl (by omega) rfl (.tmp 18) (.tmp 24) rfl acc.length rfl rfl rfl ?_;intro g6 c6 w6 O6 K6;have k6:w6.cell? ⟨w4.heap.size,1,none⟩=some (.int .i64 r.hi):=(vw (K6 _ HW.out HU.out)).trans k1;clear K6);go_roundw
    case rel=>exact ⟨k+1,r.hi+1,some ⟨g6,0,none⟩,c6,acc++[⟨nx,r.lo - 1⟩],by omega,by simp,by go_num,by go_num,HN.out,O6⟩
    case measure=>simp [intOf];omega
   ·have HM:Hid (gV acc nx r.lo=acc):=by show _=_;unfold gV;rw [if_neg hc]
    rw [HM.out] at HN;go_wp2_with fail;go_roundw
    case rel=>exact ⟨k+1,r.hi+1,ap,c,acc,by omega,rfl,by go_num,by go_num,HN.out,gv.out⟩
    case measure=>simp [intOf];omega
  ·obtain rfl:k=n1:=by omega
   have HT:Hid (X.take k=X/\X.drop k=[]):=⟨List.take_of_length_le (by rw [HL.out];exact Nat.le_refl _),List.drop_eq_nil_of_le (by rw [HL.out];exact Nat.le_refl _)⟩;have I0:=H.out.1;rw [HT.out.1,HT.out.2] at I0;have HD:=hide (I0.done fZ.out);have f4:=I0.lo;have f5:=I0.hi;clear I0;by_cases hc:nx <= 1000000000
   ·have HM:Hid (gV acc nx 1000000001=acc++[⟨nx,1000000000⟩]):=by show _=_;unfold gV;rw [if_pos (by omega)];rfl
    rw [HM.out] at HD;have Fk:=hide H.out.2;go_wp2_with (at_builtin;refine Fk.out.append ⟨nx,1000000000⟩ _ rfl (by omega) rfl (.tmp 32) (.tmp 35) rfl acc.length rfl rfl rfl ?_;intro g6 c6 w6 O6);obtain ⟨S6,F6⟩:=O6.src (by simp;omega);have HN:Hid (lE w w6 (.returned (.slice (some ⟨g6,0,none⟩) (acc.length+1) c6)) (nz A)):=⟨_,_,c6,_,rfl,by simpa using S6,aM.out.trans (O6.below.mono aM.out.size),HD.out⟩;clear S6 F6 O6;go_ret;exact HN.out
   ·have HM:Hid (gV acc nx 1000000001=acc):=by show _=_;unfold gV;rw [if_neg (by omega)]
    rw [HM.out] at HD;obtain ⟨S4,F4⟩:=H.out.2.src (by omega);have HN:Hid (lE w w4 (.returned (.slice ap acc.length c)) (nz A)):=⟨ap,acc.length,c,acc,rfl,S4,aM.out.trans (H.out.2.below.mono aM.out.size),HD.out⟩;clear S4 F4;go_wp2_with fail;go_ret;exact HN.out
theorem zfa (ao bo:Option Addr) (n cap m cap':Nat) (A B:List Rn) (w:World) (hS:aV w ao n cap A) (hR:aV w bo m cap' B) :
  Calls Tryz.prog 174 #[.slice ao n cap,.slice bo m cap'] w fun e w'=>dL w w' e (cB A B):=by
 have HS:=hide hS;have HR:=hide hR;clear hS hR;go_enter Tryz.func174,Tryz.ntmps174;go_wp2_with fail;refine (zb4 bo m cap' B _ HR.out).mono ?_;rintro e w1 ⟨a1,n1,c1,O,rfl,S1,b1,p1⟩;have dg:=hide S1;have fZ:=hide p1;have aM:=hide b1;clear S1 b1 p1;go_wp2_with fail;refine (zdb ao a1 n cap n1 c1 A O _ (HS.out.below aM.out) dg.out).mono ?_;rintro e w2 ⟨a2,n2,c2,R,rfl,S2,b2,f2,p2⟩;have HF:Hid (dL w w2 (.returned (.slice a2 n2 c2)) (cB A B)):=⟨a2,n2,c2,R,rfl,S2,aM.out.trans (b2.mono aM.out.size),(fun ad h=>Nat.le_trans aM.out.size (f2 ad h)),zgQ fZ.out p2⟩;clear S2 b2 f2 p2;go_wp2_with fail;go_ret;exact HF.out
end
section
open Go.RowKit
attribute [local go_sem ↓] kV kG
attribute [local go_sem] zR zz zM qp za0
def Wth (A B:List Rn) (b:Bool):Prop:=b=true↔∀ n,mem A n -> mem B n
end
section
open Go.RowKit
attribute [local go_sem ↓] zq zp vW vU
attribute [local go_sem] jf xt zI zi qq zk qL
theorem bQ:(SA fun _=>sl0)=SA lF:=rfl
attribute [local go_sem] bQ
end
end Go.Proofs.YtjffpimfngdggaaGreat
