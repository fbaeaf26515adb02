/- ROs RWi PWi -/
import Derived.Test.YtcilfelgpmfehaaGreatBj26
import Derived.Test.YtcilfelgpmfehaaGreatBj11
import Derived.Deep.RegionHeld3
set_option maxRecDepth 100000
set_option maxHeartbeats 4000000
namespace Go.Proofs.YtcilfelgpmfehaaGreat
section
open Go.RowKit
attribute [local go_sem ↓] ki j8
attribute [local go_sem] zZ zD zN qr br
theorem du.append2 {B0 B:Nat} {w w':World} {ao:Option Addr} {cap:Nat} {acc:List Rn} (O:du B0 B w w' ao cap acc) (e:Rn) (C:Array Value) (hC:C=RC e) (cP:acc.length < 8796093022207)
  {ops:Array Oper} {rest:List Oper} {o:Oper} {a:Act} {Q:Exit -> Act -> World -> Prop} (hgd:o.guard=none) (s x:Operand) (ho:o.op = .call { callee:=.builtin .append,args:=#[s,x],argTypes:=#[111,111] })
  (n:Nat) (hn:acc.length=n) (hs:a.eval s = .slice ao n cap) (hx:a.eval x = .slice (some ⟨w'.heap.size,0,none⟩) 1 1)
  (hK:∀ (g cap2:Nat) (w2:World),du B0 B w w2 (some ⟨g,0,none⟩) cap2 (acc++[e]) -> (∀ k,k < w'.heap.size -> (∀ ad,ao=some ad -> ad.block≠k) -> w2.heap[k]? = w'.heap[k]?) -> wpList Tryz.prog ops Q rest (a.put o.dst (.slice (some ⟨g,0,none⟩) (n+1) cap2)) w2) :
  wpList Tryz.prog ops Q (o :: rest) a (w'.alloc (.cells C 139)):=by
 subst hn hC;obtain ⟨i0,hi,dn,dm,ef⟩:=info_parts pv;have hB:=O.hB;have hB0:=O.hB0;refine wpList_append_own _ hgd s x 111 ho B 139 i0 (.agg #[.int .i64 0,.int .i64 0]) 2 16 Tryz.underlying111 hi dn dm ef rfl (by decide) _ acc.length (rcs acc) hs (O.own.alloc _) ⟨w'.heap.size,0,none⟩ 1 1 (RC e).toList hx (by simp [RC]) ?_ ?_ (by unfold maxLen;omega) (by omega) (by simp;omega) ?_
 ·intro j u hj;rw [Addr.add_lit,Nat.zero_add,World.cell?_alloc_new];simpa using hj
 ·intro u hu;exact jE e u hu
 ·intro v' w2 cp aC _;rcases cp.2 with ⟨h0,eU⟩ | ⟨g,cap2,cur,hv,r⟩
  ·omega
  ·subst hv;have dv:∀ k,(Value.slice ao acc.length cap).ownBlock=some k -> B <= k:=fun k hk=>(O.own.lt k hk).1;have eE:=aC.size;rw [World.size_alloc] at eE;refine hK g cap2 w2 ⟨?_,(O.below.alloc (by omega) _).grown aC (by simp;omega) (fun k hk=>by have:=dv k hk;omega),by omega,hB0⟩ (fun k hk aT=>?_)
   ·rw [List.length_append,xj,jY];exact cp
   ·rw [aC.block k (by simp;omega) (fun e=>by
     cases ao with
     | none=>simp [Value.ownBlock] at e
     | some ad=>simp [Value.ownBlock] at e;exact aT ad rfl e.symm)]
    exact Below.heap_alloc _ _ _ (by omega)
theorem du.under {B0 B:Nat} {w w':World} {ao:Option Addr} {cap:Nat} {acc:List Rn} (O:du B0 B w w' ao cap acc):∀ ad,ao=some ad -> ad.block < w'.heap.size:=fun ad h=>by
 subst h;exact (O.own.lt ad.block (by simp [Value.ownBlock])).2
theorem ky {w w2:World} {a:Addr} (h:w2.heap[a.block]? = w.heap[a.block]?):w2.cell? a=w.cell? a:=by
 unfold World.cell?;rw [h]

theorem zaB (ao:Option Addr) (n cap:Nat) (A:List Rn) (w:World) (hS:aU w ao n cap A) :
  Calls Tryz.prog 149 #[.slice ao n cap] w fun e w'=>il w w' e (lQ A):=by
 have HS:=hide hS;clear hS;go_enter Tryz.func149,Tryz.ntmps149;go_wp2_with fail;refine (vt ao n cap A _ HS.out).mono ?_;rintro e w1 ⟨a1,n1,c1,X,rfl,S1,b1,p1⟩;have ei:=hide S1;have eo:=hide p1;have aW:=hide b1;have HL:Hid (X.length=n1):=S1.len;have hn:=S1.big;clear S1 b1 p1;go_wp2_with fail;go_loopw [3,4,6,10] (fun o v _ i wr=>∃ (k:Nat) (nx:Int) (ap:Option Addr) (c:Nat) (acc:List Rn),k <= n1/\o = .slice ap acc.length c/\v = .int .i64 nx/\i = .int .i64 k/\Hid (fJ (X.take k) (X.drop k) acc nx/\du w1.heap.size w1.heap.size w1 wr ap c acc)) (fun _ _ _ i _=>n1 - (intOf i).toNat)
 case atStart=>exact ⟨0,1,none,0,[],Nat.zero_le _,rfl,rfl,rfl,fJ.start eo.out.1,du.nil (Below.refl _ _) (Nat.le_refl _) (Nat.le_refl _)⟩
 case round =>
  obtain ⟨k,nx,ap,c,acc,hk,rfl,rfl,rfl,H⟩:=hrel
  rename World=>w4
  have oG:=x7 (Int.le_refl _) H.out.1.frm;by_cases aq:k < n1
  ·obtain ⟨ad,rfl,A0⟩:=(ei.out.below H.out.2.below).at k aq;have dz:=xS A0;obtain ⟨r,Hr⟩:∃ r,Hid (X.getD k rn0=r):=⟨_,rfl⟩;rw [Hr.out] at dz
   have lN:k < X.length:=by rw [HL.out];exact aq
   have sQ:X[k]=r:=by rw [<- Hr.out];simp [List.getD,lN]
   have HD:Hid (X.drop k=r :: X.drop (k+1)):=by show _=_;rw [List.drop_eq_getElem_cons lN,sQ]
   have HT:Hid (X.take (k+1)=X.take k++[r]):=by show _=_;rw [List.take_succ_eq_append_getElem lN,sQ]
   have I0:=H.out.1;rw [HD.out] at I0;have HI:=hide I0;have HN:=hide I0.step;rw [<- HT.out] at HN;have f1:=I0.rest.1;have f2:=I0.rest.2.1;have f3:=I0.rest.2.2.1;have f4:=I0.lo;clear I0 sQ lN;obtain ⟨w5,cr,X5,B5,Z5⟩:=gE w4 r w4.heap.size rfl;have iB:=hide (H.out.2.later B5);have c0:=X5.at.c0;have k1:w5.cell? ⟨w4.heap.size,1,none⟩=some (.int .i64 r.hi):=X5.at.c1;have mW:=hide X5;have hu:=H.out.2.under
   have HU:Hid (∀ ad,ap=some ad -> ad.block≠w4.heap.size):=fun ad h=>by have:=hu ad h;omega
   have HW:Hid (w4.heap.size < w5.heap.size):=X5.lt;clear A0 X5 B5 Z5 hu
   have ml:IntKind.i64.wrap (r.lo - 1)=r.lo - 1:=by rw [IntKind.wrap_i64];omega
   have ia:IntKind.i64.wrap (r.hi+1)=r.hi+1:=by rw [IntKind.wrap_i64];omega
   by_cases hc:nx < r.lo
   ·have HM:Hid (fQ acc nx r.lo=acc++[⟨nx,r.lo - 1⟩]):=by show _=_;unfold fQ;rw [if_pos hc]
    rw [HM.out] at HN;go_wp2_with (at_builtin;refine iB.out.append2 ⟨nx,r.lo - 1⟩ _ rfl (by omega) rfl (.tmp 18) (.tmp 24) rfl acc.length rfl rfl rfl ?_;intro g6 c6 w6 O6 K6;have k6:w6.cell? ⟨w4.heap.size,1,none⟩=some (.int .i64 r.hi):=(ky (K6 _ HW.out HU.out)).trans k1;clear K6);go_roundw
    case rel=>exact ⟨k+1,r.hi+1,some ⟨g6,0,none⟩,c6,acc++[⟨nx,r.lo - 1⟩],by omega,by simp,by go_num,by go_num,HN.out,O6⟩
    case measure=>simp [intOf];omega
   ·have HM:Hid (fQ acc nx r.lo=acc):=by show _=_;unfold fQ;rw [if_neg hc]
    rw [HM.out] at HN;go_wp2_with fail;go_roundw
    case rel=>exact ⟨k+1,r.hi+1,ap,c,acc,by omega,rfl,by go_num,by go_num,HN.out,iB.out⟩
    case measure=>simp [intOf];omega
  ·obtain rfl:k=n1:=by omega
   have HT:Hid (X.take k=X/\X.drop k=[]):=⟨List.take_of_length_le (by rw [HL.out];exact Nat.le_refl _),List.drop_eq_nil_of_le (by rw [HL.out];exact Nat.le_refl _)⟩;have I0:=H.out.1;rw [HT.out.1,HT.out.2] at I0;have HD:=hide (I0.done eo.out);have f4:=I0.lo;have f5:=I0.hi;clear I0;by_cases hc:nx <= 1000000000
   ·have HM:Hid (fQ acc nx 1000000001=acc++[⟨nx,1000000000⟩]):=by show _=_;unfold fQ;rw [if_pos (by omega)];rfl
    rw [HM.out] at HD;have rf:=hide H.out.2;go_wp2_with (at_builtin;refine rf.out.append ⟨nx,1000000000⟩ _ rfl (by omega) rfl (.tmp 32) (.tmp 35) rfl acc.length rfl rfl rfl ?_;intro g6 c6 w6 O6);obtain ⟨S6,F6⟩:=O6.src (by simp;omega);have HN:Hid (il w w6 (.returned (.slice (some ⟨g6,0,none⟩) (acc.length+1) c6)) (lQ A)):=⟨_,_,c6,_,rfl,by simpa using S6,aW.out.trans (O6.below.mono aW.out.size),HD.out⟩;clear S6 F6 O6;go_ret;exact HN.out
   ·have HM:Hid (fQ acc nx 1000000001=acc):=by show _=_;unfold fQ;rw [if_neg (by omega)]
    rw [HM.out] at HD;obtain ⟨S4,F4⟩:=H.out.2.src (by omega);have HN:Hid (il w w4 (.returned (.slice ap acc.length c)) (lQ A)):=⟨ap,acc.length,c,acc,rfl,S4,aW.out.trans (H.out.2.below.mono aW.out.size),HD.out⟩;clear S4 F4;go_wp2_with fail;go_ret;exact HN.out
theorem zc4 (ao bo:Option Addr) (n cap m cap':Nat) (A B:List Rn) (w:World) (hS:aU w ao n cap A) (hR:aU w bo m cap' B) :
  Calls Tryz.prog 117 #[.slice ao n cap,.slice bo m cap'] w fun e w'=>dj w w' e (cG A B):=by
 have HS:=hide hS;have HR:=hide hR;clear hS hR;go_enter Tryz.func117,Tryz.ntmps117;go_wp2_with fail;refine (zaB bo m cap' B _ HR.out).mono ?_;rintro e w1 ⟨a1,n1,c1,O,rfl,S1,b1,p1⟩;have ei:=hide S1;have eo:=hide p1;have aW:=hide b1;clear S1 b1 p1;go_wp2_with fail;refine (zbr ao a1 n cap n1 c1 A O _ (HS.out.below aW.out) ei.out).mono ?_;rintro e w2 ⟨a2,n2,c2,R,rfl,S2,b2,f2,p2⟩;have HF:Hid (dj w w2 (.returned (.slice a2 n2 c2)) (cG A B)):=⟨a2,n2,c2,R,rfl,S2,aW.out.trans (b2.mono aW.out.size),(fun ad h=>Nat.le_trans aW.out.size (f2 ad h)),zen eo.out p2⟩;clear S2 b2 f2 p2;go_wp2_with fail;go_ret;exact HF.out
end
section
open Go.RowKit
attribute [local go_sem ↓] ki j8
attribute [local go_sem] zZ zD zN qr br
def Wth (A B:List Rn) (b:Bool):Prop:=b=true↔∀ n,mem A n -> mem B n
end
section
open Go.RowKit
attribute [local go_sem ↓] zl zk kP kN
attribute [local go_sem] xO q7 zw zf zW zh qs
theorem yw:(SA fun _=>sl0)=SA ik:=rfl
attribute [local go_sem] yw
end
end Go.Proofs.YtcilfelgpmfehaaGreat
