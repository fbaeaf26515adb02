/- RNm RNo RSz -/
import Derived.Test.YtcilfelgpmfehaaGreatBj01
set_option maxRecDepth 100000
set_option maxHeartbeats 4000000
namespace Go.Proofs.YtcilfelgpmfehaaGreat
section
open Go.RowKit
attribute [local go_sem ↓] ki j8
attribute [local go_sem] zZ zD zN qr
theorem H9 {fn:Func} {p:Tmp} {w:World} {g:Nat} {T:TypeId} {r:Rn} (h:fn.results=#[.cell p 139]) {tmps:Array Value} (hp:tmps.getD p undef = .pointer (some ⟨g,0,none⟩)) (A:Box w g T r) :
  (results fn tmps).run Tryz.prog w = .ok (RV r) w:=by
 have hl:=zcH A.at
 simp only [results,h];rw [Array.getD_eq_getD_getElem?] at hp;simp [hp,asAddr,hl]
theorem zeZ (r:Rn) (w:World):Calls Tryz.prog 167 #[RV r] w fun e w'=>e = .returned (RV (gI r))/\Below w.heap.size w w':=by
 have B1:=ze w (.cells (RC r) 139);have HB:Hid (Below w.heap.size w ((w.alloc (.cells (RC r) 139)).alloc (.cells (RC rn0) 139))):=B1.trans ((ze _ _).mono B1.size);have X1:=(qx w 139 r).below (ze _ (.cells (RC rn0) 139));have X2:=qx (w.alloc (.cells (RC r) 139)) 139 rn0;rw [World.size_alloc] at X2;have c0:=X1.at.c0;have c1:((w.alloc (.cells (RC r) 139)).alloc (.cells (RC rn0) 139)).cell? ⟨w.heap.size,1,none⟩=some (.int .i64 r.hi):=X1.at.c1;have HX:=hide (X2.setRow (r':=gI r));have cr:(stR (.pointer (some ⟨w.heap.size+1,0,none⟩)) (.agg (((RC rn0).setIfInBounds 0 (.int .i64 (max r.lo 1))).setIfInBounds 1 (.int .i64 (min r.hi 1000000000))))).run Tryz.prog ((w.alloc (.cells (RC r) 139)).alloc (.cells (RC rn0) 139)) = .ok () (((w.alloc (.cells (RC r) 139)).alloc (.cells (RC rn0) 139)).setRow (w.heap.size+1) (RC (gI r))):=zcG (r':=gI r) X2
 have cd:Hid (Below w.heap.size w (((w.alloc (.cells (RC r) 139)).alloc (.cells (RC rn0) 139)).setRow (w.heap.size+1) (RC (gI r)))):=zg HB.out (by omega);clear X1 X2 B1;go_enter Tryz.func167,Tryz.ntmps167;go_wp2_with fail;exact bodyPost_ret (H9 Tryz.results167 rfl HX.out) rfl ⟨rfl,cd.out⟩
theorem du.setHi {B0 B:Nat} {w w':World} {ad:Addr} {cap:Nat} {i:List Rn} {x:Rn} (O:du B0 B w w' (some ad) cap (i++[x])) (h:Int):du B0 B w (w'.setCell ((ad.add (i.length * 2)).add 1) (.int .i64 h)) (some ad) cap (i++[⟨x.lo,h⟩])/\w'.frozen? ((ad.add (i.length * 2)).add 1)=false:=by
 have ou:(i++[(⟨x.lo,h⟩:Rn)]).length=(i++[x]).length:=by simp
 rcases O.own.2 with ⟨h0,_⟩ | ⟨g,c,cur,hv,dV,dB,hnc,fw,hcsz,htake⟩
 ·cases h0
 ·simp only [Value.slice.injEq,Option.some.injEq,true_and] at hv;obtain ⟨rfl,rfl⟩:=hv;rw [Addr.add_lit,Addr.add_lit,Nat.zero_add];have hB:=O.hB;refine ⟨⟨⟨by rw [qm],Or.inr ⟨g,cap,cur.setIfInBounds (i.length * 2+1) (.int .i64 h),by rw [ou],dV,heap_setCell_same w' g (i.length * 2+1) cur 139 _ dB,by rw [ou];exact hnc,fw,by simpa using hcsz,?_⟩⟩,O.below.setCell (by have:=O.hB0;show B0 <= g;omega) _,by simpa [World.setCell] using hB,O.hB0⟩,by simp [World.frozen?,dB]⟩;rw [Array.toList_setIfInBounds,List.take_set,ou,htake,xj,xj,jY,jY,List.set_append_right _ _ (by rw [qm];omega),qm];rw [show i.length * 2+1 - i.length * 2=1 by omega];rfl
def dj (w w':World) (e:Ending) (P:List Rn -> Prop):Prop:=∃ ao n c L,e = .returned (.slice ao n c)/\aU w' ao n c L/\Below w.heap.size w w'/\(∀ ad,ao=some ad -> w.heap.size <= ad.block)/\P L
theorem dj.gives {w w':World} {e:Ending} {P:List Rn -> Prop} (h:dj w w' e P):il w w' e P:=by
 obtain ⟨ao,n,c,L,e1,S,b,_,p⟩:=h;exact ⟨ao,n,c,L,e1,S,b,p⟩
theorem zad (ao:Option Addr) (n cap:Nat) (P:List Rn) (w:World) (hS:aU w ao n cap P) (hs:P.Pairwise (fun x y=>x.lo <= y.lo)) (hc:∀ x,x∈P -> 1 <= x.lo/\x.lo <= x.hi/\x.hi <= 1000000000) :
  Calls Tryz.prog 170 #[.slice ao n cap] w fun e w'=>dj w w' e (aZ P):=by
 have HS:=hide hS;have hn:=hS.big;have HL:Hid (P.length=n):=hS.len;have HP:=hide hs;have HC:=hide hc;clear hS hs hc;go_enter Tryz.func170,Tryz.ntmps170;go_wp2_with fail;go_loopw [3,5,6,9] (fun v _ _ i wr=>∃ (k:Nat) (ap:Option Addr) (c:Nat) (acc:List Rn),k <= n/\acc.length <= k/\v = .slice ap acc.length c/\i = .int .i64 k/\Hid (dL (P.take k) acc/\du w.heap.size w.heap.size w wr ap c acc)) (fun _ _ _ i _=>n - (intOf i).toNat)
 case atStart=>exact ⟨0,none,0,[],Nat.zero_le _,Nat.le_refl _,rfl,rfl,dL.start,du.nil (Below.refl _ _) (Nat.le_refl _) (Nat.le_refl _)⟩
 case round =>
  obtain ⟨k,ap,c,acc,hk,oG,rfl,rfl,H⟩:=hrel
  rename World=>w4
  by_cases aq:k < n
  ·obtain ⟨ad,rfl,A0⟩:=(HS.out.below H.out.2.below).at k aq;have dz:=xS A0;obtain ⟨r,Hr⟩:∃ r,Hid (P.getD k rn0=r):=⟨_,rfl⟩;rw [Hr.out] at dz
   have lN:k < P.length:=by rw [HL.out];exact aq
   have sQ:P.getD k rn0=P[k]'lN:=by simp [List.getD,lN]
   have Nb:Hid (r∈P):=by show _∈_;rw [<- Hr.out,sQ];exact List.getElem_mem _
   have FC:=hide (HC.out r Nb.out)
   have HT:Hid (P.take (k+1)=P.take k++[r]):=by show _=_;rw [List.take_succ_eq_append_getElem lN,<- sQ,Hr.out]
   have MS:Hid (∀ p,p∈P.take k -> p.lo <= r.lo):=fun p hp=>by
    obtain ⟨j,hj,rfl⟩:=List.mem_iff_getElem.1 hp;rw [List.length_take] at hj;rw [<- Hr.out,sQ,List.getElem_take];exact List.pairwise_iff_getElem.1 HP.out j k (by omega) lN (by omega)
   obtain ⟨w5,cr,X5,B5,Z5⟩:=gE w4 r w4.heap.size rfl;have mW:=hide X5;have iB:=hide (H.out.2.later B5);clear A0 X5 B5 sQ lN;obtain ⟨lo,hi⟩:=r;have r1:=FC.out.1;have r2:=FC.out.2.1;have r3:=FC.out.2.2;simp only at r1 r2 r3;rcases List.eq_nil_or_concat acc with e | ⟨i,x,e⟩
   ·subst e
    have HN:Hid (dL (P.take (k+1)) ([]++[⟨lo,hi⟩])):=by rw [HT.out];exact H.out.1.first r1 r2 r3
    have L1:IntKind.i64.wrap ((0:Int) - 1) = -1:=by rw [IntKind.wrap_i64];omega
    go_wp2_with fail;refine wp_region_quiet_below (by kernel_rfl) (by kernel_rfl) ?_
    repeat (with_reducible (refine wpQuiet_step ?_);intro K hK;go_simp;(try rw [if_neg (by unfold undef;simp)]);first | (with_reducible (refine hK _ ?_);clear hK K) | (apply Exists.intro;refine ⟨fun _=>?_,hK _ ?_⟩;(fail);clear hK K))
    with_reducible (refine wpQuiet_nil ?_)
    intro w6 hw';obtain ⟨⟨dq,osq⟩,hw''⟩:=hw'
    have b6:Below w5.heap.size w5 w6:=by rw [hw''];exact below_regrown w5 dq osq
    clear hw'' dq osq;have mx:=hide (iB.out.later b6)
    have l6:=xS (mW.out.below b6).at
    clear b6;go_wp2_with (at_builtin;refine mx.out.append ⟨lo,hi⟩ _ rfl (by simp) rfl (.tmp 41) (.tmp 43) rfl 0 rfl rfl rfl ?_;intro g7 c7 w7 O7);go_roundw
    case rel=>exact ⟨k+1,some ⟨g7,0,none⟩,c7,[]++[⟨lo,hi⟩],by omega,by simp,by simp,by go_num,HN.out,O7⟩
    case measure=>simp [intOf];omega
   ·rw [List.concat_eq_append] at e;subst e;obtain ⟨j,hj⟩:∃ j,i.length=j:=⟨_,rfl⟩;obtain ⟨m,eY⟩:∃ m,(i++[x]).length=m:=⟨_,rfl⟩
    have I2:j+1=m:=by rw [<- eY];simp [hj]
    have Ke:=hide I2;rw [eY] at oG ⊢
    have L1:IntKind.i64.wrap ((m:Int) - 1)=(j:Int):=by rw [IntKind.wrap_i64];omega
    have Mv:decide ((0:Int) <= (j:Int))=true:=decide_eq_true (by omega)
    have uA:j < m:=by omega
    clear I2;have HF:=hide (v8 H.out.1.frm);obtain ⟨S5,F5⟩:=iB.out.src (by rw [eY];omega);rw [eY] at S5;obtain ⟨ap',rfl,A5⟩:=S5.at j uA;obtain ⟨g,rfl⟩:∃ g,ap'=⟨g,0,none⟩:=⟨ap'.block,iB.out.mr.1.ha⟩
    have JL:(i++[x]).getD j rn0=x:=by simp [List.getD,<- hj]
    rw [JL] at A5;have m8:=hide A5;clear S5 F5 A5 JL;obtain ⟨xl,xh⟩:=x;have f2:=HF.out.2.1;have f3:=HF.out.2.2;simp only at f2 f3
    have dH:IntKind.i64.wrap (xh+1)=xh+1:=by rw [IntKind.wrap_i64];have:=HF.out.1;simp only at this;omega
    have k0:∀ d os,(Sort.grow (redrawn w5 d) os).cell? ⟨w4.heap.size,0,none⟩=some (.int .i64 lo):=cell_regrown mW.out.at.c0
    have A5c:w5.cell? ⟨g,j * 2+1,none⟩=some (.int .i64 xh):=by have:=m8.out.c1;rw [Addr.add_lit,Addr.add_lit,Nat.zero_add] at this;exact this
    have k1:∀ d os,(Sort.grow (redrawn w5 d) os).cell? ⟨g,j * 2+1,none⟩=some (.int .i64 xh):=cell_regrown A5c;have KW:=hide A5c;clear A5c;by_cases hg:lo <= xh+1
    ·have Bq:decide (lo <= xh+1)=true:=decide_eq_true hg
     have HN:Hid (dL (P.take (k+1)) (i++[⟨xl,max xh hi⟩])):=by rw [HT.out];exact H.out.1.join MS.out hg r2 r3
     go_wp2_with fail;refine wp_region_quiet_below (by kernel_rfl) (by kernel_rfl) ?_
     repeat (with_reducible (refine wpQuiet_step ?_);intro K hK;go_simp;(try rw [if_neg (by unfold undef;simp)]);first | (with_reducible (refine hK _ ?_);clear hK K) | (apply Exists.intro;refine ⟨fun _=>?_,hK _ ?_⟩;(fail);clear hK K))
     with_reducible (refine wpQuiet_nil ?_)
     intro w6 hw';obtain ⟨⟨dq,osq⟩,hw''⟩:=hw'
     have b6:Below w5.heap.size w5 w6:=by rw [hw''];exact below_regrown w5 dq osq
     clear hw'' dq osq;have mx:=hide (iB.out.later b6);have rF:=hide (m8.out.on b6);have ui:=hide (mW.out.below b6);clear b6 k0 k1
     have q1:w6.cell? ⟨g,j * 2+1,none⟩=some (.int .i64 xh):=by have:=rF.out.c1;rw [Addr.add_lit,Addr.add_lit,Nat.zero_add] at this;exact this
     have q2:w6.cell? ⟨w4.heap.size,1,none⟩=some (.int .i64 hi):=ui.out.at.c1;obtain ⟨O7,fz⟩:=mx.out.setHi (max xh hi);rw [hj,Addr.add_lit,Addr.add_lit,Nat.zero_add] at O7 fz;have mw:=hide O7;clear O7;go_wp2_with fail;go_region;go_wp2_with fail;go_roundw
     case rel=>exact ⟨k+1,some ⟨g,0,none⟩,c,i++[⟨xl,max xh hi⟩],by omega,by have:=Ke.out;simp [hj];omega,by have:=Ke.out;simp [hj,this],by go_num,HN.out,mw.out.later (zd _)⟩
     case measure=>simp [intOf];omega
    ·have Bq:decide (lo <= xh+1)=false:=decide_eq_false hg
     have HN:Hid (dL (P.take (k+1)) (i++[⟨xl,xh⟩]++[⟨lo,hi⟩])):=by rw [HT.out];exact H.out.1.new hg r2 r3
     go_wp2_with fail;refine wp_region_quiet_below (by kernel_rfl) (by kernel_rfl) ?_
     repeat (with_reducible (refine wpQuiet_step ?_);intro K hK;go_simp;(try rw [if_neg (by unfold undef;simp)]);first | (with_reducible (refine hK _ ?_);clear hK K) | (apply Exists.intro;refine ⟨fun _=>?_,hK _ ?_⟩;(fail);clear hK K))
     with_reducible (refine wpQuiet_nil ?_)
     intro w6 hw';obtain ⟨⟨dq,osq⟩,hw''⟩:=hw'
     have b6:Below w5.heap.size w5 w6:=by rw [hw''];exact below_regrown w5 dq osq
     clear hw'' dq osq;have mx:=hide (iB.out.later b6)
     have l6:=xS (mW.out.below b6).at
     clear b6 k0 k1;go_wp2_with (at_builtin;refine mx.out.append ⟨lo,hi⟩ _ rfl (by rw [eY];omega) rfl (.tmp 41) (.tmp 43) rfl m eY rfl rfl ?_;intro g7 c7 w7 O7);go_roundw
     case rel=>exact ⟨k+1,some ⟨g7,0,none⟩,c7,i++[⟨xl,xh⟩]++[⟨lo,hi⟩],by omega,by rw [List.length_append,eY];simp;omega,by rw [List.length_append,eY];simp,by go_num,HN.out,O7⟩
     case measure=>simp [intOf];omega
  ·obtain rfl:k=n:=by omega
   have HE:Hid (P.take k=P):=List.take_of_length_le (by rw [HL.out];exact Nat.le_refl _);obtain ⟨S4,F4⟩:=H.out.2.src (by omega);have HN:Hid (dj w w4 (.returned (.slice ap acc.length c)) (aZ P)):=⟨ap,acc.length,c,acc,rfl,S4,H.out.2.below,F4,H.out.1.frm,fun n=>by rw [H.out.1.mm n,HE.out]⟩;clear S4 F4;go_wp2_with fail;go_ret;exact HN.out
end
section
open Go.RowKit
attribute [local go_sem ↓] ki j8
attribute [local go_sem] zZ zD zN qr
theorem vr (ao:Option Addr) (n cap:Nat) (L:List Rn) (w:World) (hS:aU w ao n cap L) :
  Calls Tryz.prog 132 #[.slice ao n cap] w fun e w'=>dj w w' e (aZ L):=by
 have HS:=hide hS;have hn:=hS.big;have HL:Hid (L.length=n):=hS.len;clear hS;go_enter Tryz.func132,Tryz.ntmps132;go_wp2_with fail;go_loopw [3,5,6,9] (fun v _ _ i wr=>∃ (k:Nat) (ap:Option Addr) (c:Nat) (acc:List Rn),k <= n/\acc.length <= k/\v = .slice ap acc.length c/\i = .int .i64 k/\Hid (acc=fA (L.take k)/\du w.heap.size w.heap.size w wr ap c acc)) (fun _ _ _ i _=>n - (intOf i).toNat)
 case atStart=>exact ⟨0,none,0,[],Nat.zero_le _,Nat.le_refl _,rfl,rfl,rfl,du.nil (Below.refl _ _) (Nat.le_refl _) (Nat.le_refl _)⟩
 case round =>
  obtain ⟨k,ap,c,acc,hk,oG,rfl,rfl,H⟩:=hrel
  rename World=>w4
  by_cases aq:k < n
  ·obtain ⟨ad,rfl,A0⟩:=(HS.out.below H.out.2.below).at k aq;have dz:=xS A0;obtain ⟨r,Hr⟩:∃ r,Hid (L.getD k rn0=r):=⟨_,rfl⟩;rw [Hr.out] at dz
   have lN:k < L.length:=by rw [HL.out];exact aq
   have HT:Hid (fA (L.take (k+1))=acc++fA [r]):=by
    show _=_
    rw [List.take_succ_eq_append_getElem lN,show L[k]=r by rw [<- Hr.out];simp [List.getD,lN],H.out.1];simp [fA]
   obtain ⟨w5,cr,X5,B5,Z5⟩:=gE w4 r w4.heap.size rfl
   have lx:=xS X5.at
   have iB:=hide (H.out.2.later B5);clear A0 X5 B5 lN Z5;go_wp2_with fail;refine (zeZ r _).mono ?_;rintro e w6 ⟨rfl,b6⟩;have mx:=hide (iB.out.later b6);clear b6 lx cr dz;obtain ⟨q,Hq⟩:∃ q,Hid (gI r=q):=⟨_,rfl⟩;rw [Hq.out];obtain ⟨w7,cr,X7,B7,Z7⟩:=gE w6 q w6.heap.size rfl;have mw:=hide (mx.out.later B7)
   have lq:=xS X7.at
   have c0:=X7.at.c0;have c1:w7.cell? ⟨w6.heap.size,1,none⟩=some (.int .i64 q.hi):=X7.at.c1;clear X7 B7 Z7;by_cases hc:q.lo <= q.hi
   ·have HN:Hid (fA (L.take (k+1))=acc++[q]):=by show _=_;rw [HT.out];simp [fA,Hq.out,hc]
    go_wp2_with (at_builtin;refine mw.out.append q _ rfl (by omega) rfl (.tmp 20) (.tmp 22) rfl acc.length rfl rfl rfl ?_;intro g8 c8 w8 O8);go_roundw
    case rel=>exact ⟨k+1,some ⟨g8,0,none⟩,c8,acc++[q],by omega,by simp;omega,by simp,by go_num,HN.out.symm,O8⟩
    case measure=>simp [intOf];omega
   ·have HN:Hid (fA (L.take (k+1))=acc):=by show _=_;rw [HT.out];simp [fA,Hq.out,hc]
    go_wp2_with fail;go_roundw
    case rel=>exact ⟨k+1,ap,c,acc,by omega,by omega,rfl,by go_num,HN.out.symm,mw.out⟩
    case measure=>simp [intOf];omega
  ·obtain rfl:k=n:=by omega
   have HE:Hid (acc=fA L):=by show _=_;rw [H.out.1,List.take_of_length_le (by rw [HL.out];exact Nat.le_refl _)]
   have aR:=hide H.out.2.below
   cases ap with
   | none =>
    obtain ⟨S4,_⟩:=H.out.2.src (by omega);obtain ⟨e0,rfl⟩:=S4.nil rfl;rw [e0];have CT:acc=[]:=List.eq_nil_of_length_eq_zero e0
    have HN:Hid (∀ m,mem [] m↔mem L m):=fun m=>by rw [<- zam L m,<- HE.out,CT]
    clear S4 e0 CT;go_wp2_with fail;refine (pn none 0 _).mono ?_;rintro e w5 ⟨rfl,rfl⟩;go_wp2_with fail;refine (zad none 0 0 [] _ (aU.empty _) List.Pairwise.nil (fun x hx=>by cases hx)).mono ?_;rintro e w6 ⟨a6,n6,c6,R6,rfl,S6,b6,f6,p6⟩;have HF:Hid (dj w w6 (.returned (.slice a6 n6 c6)) (aZ L)):=⟨a6,n6,c6,R6,rfl,S6,aR.out.trans (b6.mono aR.out.size),(fun ad h=>Nat.le_trans aR.out.size (f6 ad h)),p6.1,fun m=>(p6.2 m).trans (HN.out m)⟩;clear S6 b6 f6 p6;go_wp2_with fail;go_ret;exact HF.out
   | some ap =>
    obtain ⟨M4,mC,tV,oF⟩:=H.out.2.mr;have iC:=hide M4;have EE:=hide mC;have fS:=hide tV;have i5:=hide oF;clear M4 mC tV oF;obtain ⟨m,hm⟩:∃ m,acc.length=m:=⟨_,rfl⟩;have HM:=hide hm;rw [hm] at oG ⊢;clear hm;go_wp2_with fail;refine (jr ap c m acc.toArray _ iC.out (by rw [List.size_toArray];exact HM.out) (by omega)).mono ?_;rintro e w5 ⟨rfl,d5,hp,hs,hz,M5,b5⟩;have HP:=hide hp;have Bb:=hide hs;have uL:=hide (M5.rsrc m c hz (by rw [<- HM.out];exact fS.out) i5.out (by omega));have ee:Hid (Below w.heap.size w w5):=aR.out.trans (b5.mono EE.out);clear hp hs hz M5 b5;go_wp2_with fail;refine (zad (some ap) m c d5.toList _ uL.out Bb.out (fun x hx=>zeY L x (by rw [<- HE.out];have:=HP.out.mem_iff.1 hx;simpa using this))).mono ?_;rintro e w6 ⟨a6,n6,c6,R6,rfl,S6,b6,f6,p6⟩
    have HF:Hid (dj w w6 (.returned (.slice a6 n6 c6)) (aZ L)):=⟨a6,n6,c6,R6,rfl,S6,ee.out.trans (b6.mono ee.out.size),(fun ad h=>Nat.le_trans ee.out.size (f6 ad h)),p6.1,fun m=>by
     rw [p6.2 m,<- zam L m,<- HE.out]
     exact zdc (fun x=>by have:=HP.out.mem_iff (a:=x);simpa using this) m⟩
    clear S6 b6 f6 p6;go_wp2_with fail;go_ret;exact HF.out
theorem vt (ao:Option Addr) (n cap:Nat) (L:List Rn) (w:World) (hS:aU w ao n cap L) :
  Calls Tryz.prog 132 #[.slice ao n cap] w fun e w'=>il w w' e (aZ L):=(vr ao n cap L w hS).mono fun _ _ h=>h.gives
end
section
open Go.RowKit
attribute [local go_sem ↓] ki j8
attribute [local go_sem] zZ zD zN qr
theorem aU.tail' {w:World} {b o m c:Nat} {r:Rn} {L:List Rn} (h:aU w (some ⟨b,o,none⟩) m c (r :: L)):aU w (if c=1 then some ⟨b,o,none⟩ else some ⟨b,o+2,none⟩) (m - 1) (c - 1) L:=by
 by_cases e:c=1
 ·rw [if_pos e];have h1:=h.len;have h2:=h.cap;simp at h1;exact ⟨by omega,fun e=>(by cases e),fun ad ha t ht=>by omega,by omega,by omega,by omega⟩
 ·rw [if_neg e];exact h.tail
theorem zb7 (r:Rn) (w:World) (h1:1 <= r.lo) (h2:r.hi <= 1000000000) (h3:r.lo <= r.hi):Calls Tryz.prog 199 #[RV r] w fun e w'=>e = .returned (.int .i64 (r.hi - r.lo+1))/\Below w.heap.size w w':=by
 have HB:=hide (ze w (.cells (RC r) 139));have X1:=qx w 139 r;have c0:=X1.at.c0;have c1:(w.alloc (.cells (RC r) 139)).cell? ⟨w.heap.size,1,none⟩=some (.int .i64 r.hi):=X1.at.c1
 have e1:IntKind.i64.wrap (r.hi - r.lo)=r.hi - r.lo:=by rw [IntKind.wrap_i64];omega
 have e2:IntKind.i64.wrap (r.hi - r.lo+1)=r.hi - r.lo+1:=by rw [IntKind.wrap_i64];omega
 clear X1;go_enter Tryz.func199,Tryz.ntmps199;go_wp2_with fail;go_ret;exact ⟨by simp,HB.out⟩
theorem zdq:∀ {a:List Rn} {l:Int} (k:Nat),1 <= l -> form l a -> k < a.length -> 1 <= (a.getD k rn0).lo/\(a.getD k rn0).lo <= (a.getD k rn0).hi/\(a.getD k rn0).hi <= 1000000000
 | r :: a,l,0,hl,h,_=>by have:=h.1;have:=h.2.1;have:=h.2.2.1;simp [List.getD];omega
 | r :: a,l,k+1,hl,h,hk=>by
  have:=zdq k (l:=r.hi+2) (by have:=h.1;have:=h.2.1;omega) h.2.2.2 (by simpa using hk);simpa [List.getD] using this
def pF (A:List Rn) (k:Int):Prop:=∃ R,aZ A R/\k=sz R
theorem zd5 (ao:Option Addr) (n cap:Nat) (A:List Rn) (w:World) (hS:aU w ao n cap A) :
  Calls Tryz.prog 173 #[.slice ao n cap] w fun e w'=>∃ k,e = .returned (.int .i64 k)/\pF A k/\Below w.heap.size w w':=by
 have HS:=hide hS;clear hS;go_enter Tryz.func173,Tryz.ntmps173;go_wp2_with fail;refine (vt ao n cap A _ HS.out).mono ?_;rintro e w1 ⟨a1,n1,c1,X,rfl,S1,b1,p1⟩;have ei:=hide S1;have eo:=hide p1;have aW:=hide b1;have HL:Hid (X.length=n1):=S1.len;have hn:=S1.big;have hz:=zbQ p1.1;have HZ:=hide hz.2.1
 have dn:sz X <= 1000000000:=by
  rcases hz.2.1 with e | e
  ·rw [e];simp [sz]
  ·omega
 clear S1 b1 p1 hz;go_wp2_with fail;go_loopw [3,5,9] (fun v _ i wr=>∃ (k:Nat),k <= n1/\v = .int .i64 (sz (X.take k))/\i = .int .i64 k/\Hid (Below w1.heap.size w1 wr)) (fun _ _ i _=>n1 - (intOf i).toNat)
 case atStart=>exact ⟨0,Nat.zero_le _,rfl,rfl,Below.refl _ _⟩
 case round =>
  obtain ⟨k,hk,rfl,rfl,H⟩:=hrel
  rename World=>w4
  have ml:=zcB X 1 k eo.out.1;by_cases aq:k < n1
  ·obtain ⟨ad,rfl,A0⟩:=(ei.out.below H.out).at k aq;have dz:=xS A0;have Cf:=zdq k (Int.le_refl _) eo.out.1 (by rw [HL.out];exact aq);obtain ⟨r,Hr⟩:∃ r,Hid (X.getD k rn0=r):=⟨_,rfl⟩;rw [Hr.out] at dz Cf
   have lN:k < X.length:=by rw [HL.out];exact aq
   have ia:=zcB X 1 (k+1) eo.out.1
   have HT:Hid (sz (X.take (k+1))=sz (X.take k)+(r.hi - r.lo+1)):=by
    show _=_
    rw [List.take_succ_eq_append_getElem lN,zcC,show X[k]=r by rw [<- Hr.out];simp [List.getD,lN]];simp [sz]
   have hT:=HT.out;obtain ⟨s,hs⟩:∃ s,sz (X.take k)=s:=⟨_,rfl⟩;rw [hs] at ml hT ⊢;have LQ:=hide hs
   have dH:IntKind.i64.wrap (s+(r.hi - r.lo+1))=s+(r.hi - r.lo+1):=by rw [IntKind.wrap_i64];omega
   obtain ⟨w5,cr,X5,B5,Z5⟩:=gE w4 r w4.heap.size rfl
   have lx:=xS X5.at
   have ee:=wTr H B5;have gl:=hide (zb7 r w5 Cf.1 Cf.2.2 Cf.2.1);clear A0 X5 B5 Z5 lN hT hs ia Cf;go_wp2_with fail;refine gl.out.mono ?_;rintro e w6 ⟨rfl,b6⟩;have gJ:=wTr ee b6;clear b6;go_wp2_with fail;go_roundw
   case rel=>exact ⟨k+1,by omega,by rw [HT.out,LQ.out],by go_num,gJ⟩
   case measure=>simp [intOf];omega
  ·obtain rfl:k=n1:=by omega
   have HF:Hid (pF A (sz (X.take k))):=⟨X,eo.out,by rw [List.take_of_length_le (by rw [HL.out];exact Nat.le_refl _)]⟩;have nh:=wTr aW H.out;go_wp2_with fail;go_ret;exact ⟨_,rfl,HF.out,nh.out⟩
end
end Go.Proofs.YtcilfelgpmfehaaGreat
