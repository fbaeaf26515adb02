/- QTu -/
import Derived.Test.YtjffpimfngdggaaGreatFf01
set_option maxRecDepth 100000
set_option maxHeartbeats 4000000
namespace Go.Proofs.YtjffpimfngdggaaGreat
open Go.RowKit

theorem dy.keep {B0 B:Nat} {w w' w2:World} {ao xo:Option Addr} {cap xc:Nat} {acc X:List Int} (O:dy B0 B w w' xo xc X) (hb:Below B0 w w2) (dE:w'.heap.size <= w2.heap.size)
  (h:∀ k,k < w'.heap.size -> (Value.slice ao acc.length cap).ownBlock≠some k -> w2.heap[k]? = w'.heap[k]?) (cr:∀ k,(Value.slice xo X.length xc).ownBlock=some k -> (Value.slice ao acc.length cap).ownBlock≠some k):dy B0 B w w2 xo xc X:=by
 refine ⟨⟨O.own.1,?_⟩,hb,Nat.le_trans O.hB dE,O.hB0⟩;rcases O.own.2 with h0 | ⟨g,cap2,cur,hv,dU,dx,r⟩
 ·exact Or.inl h0
 ·refine Or.inr ⟨g,cap2,cur,hv,dU,(h g (Array.getElem?_eq_some_iff.1 dx).1 (cr g ?_)).trans dx,r⟩;rw [hv];rfl
structure lQ (w W:World) (ai:Option Addr) (ci:Nat) (I:List Int) (ao:Option Addr) (co:Nat) (O:List Int):Prop where
 a:dy w.heap.size w.heap.size w W ai ci I
 b:dy w.heap.size w.heap.size w W ao co O
 d:∀ k,(Value.slice ai I.length ci).ownBlock=some k -> (Value.slice ao O.length co).ownBlock≠some k
theorem lQ.on {w W W':World} {ai ao:Option Addr} {ci co:Nat} {I O:List Int} (T:lQ w W ai ci I ao co O) (hb:Below W.heap.size W W'):lQ w W' ai ci I ao co O:=⟨T.a.later hb,T.b.later hb,T.d⟩
theorem zh3 {ao:Option Addr} {n c k:Nat} (h:(Value.slice ao n c).ownBlock=some k):∃ ad,ao=some ad/\ad.block=k:=by
 cases ao with
 | none=>cases h
 | some ad=>exact ⟨ad,rfl,Option.some.inj h⟩
theorem lQ.growA {w W W2:World} {ai ao ai2:Option Addr} {ci co ci2:Nat} {I O I2:List Int} (T:lQ w W ai ci I ao co O) (N:dy w.heap.size w.heap.size w W2 ai2 ci2 I2) (h:∀ k,k < W.heap.size -> (Value.slice ai I.length ci).ownBlock≠some k -> W2.heap[k]? = W.heap[k]? /\ ∀ ad2,ai2=some ad2 -> ad2.block≠k) (dE:W.heap.size <= W2.heap.size):lQ w W2 ai2 ci2 I2 ao co O:=by
 refine ⟨N,T.b.keep N.below dE (fun k h1 h2=>(h k h1 h2).1) (fun k hk e=>T.d k e hk),fun k hk e=>?_⟩;obtain ⟨ad2,e2,e3⟩:=zh3 hk;have ak:=(T.b.lt e).2;exact (h k ak (fun e4=>T.d k e4 e)).2 ad2 e2 e3
theorem lQ.growB {w W W2:World} {ai ao ao2:Option Addr} {ci co co2:Nat} {I O O2:List Int} (T:lQ w W ai ci I ao co O) (N:dy w.heap.size w.heap.size w W2 ao2 co2 O2) (h:∀ k,k < W.heap.size -> (Value.slice ao O.length co).ownBlock≠some k -> W2.heap[k]? = W.heap[k]? /\ ∀ ad2,ao2=some ad2 -> ad2.block≠k) (dE:W.heap.size <= W2.heap.size):lQ w W2 ai ci I ao2 co2 O2:=by
 refine ⟨T.a.keep N.below dE (fun k h1 h2=>(h k h1 h2).1) (fun k hk e=>T.d k hk e),N,fun k hk e=>?_⟩;obtain ⟨ad2,e2,e3⟩:=zh3 e;have ak:=(T.a.lt hk).2;exact (h k ak (fun e4=>T.d k hk e4)).2 ad2 e2 e3
def cf (Lo Hi:List Int):List Rn:=List.zipWith (fun a b=>⟨a,b⟩) Lo Hi
theorem zeq (Lo Hi:List Int) (k:Nat) (h1:k < Lo.length) (h2:k < Hi.length):(cf Lo Hi).take (k+1)=(cf Lo Hi).take k++[⟨Lo.getD k 0,Hi.getD k 0⟩]:=by
 have hl:k < (cf Lo Hi).length:=by unfold cf;rw [List.length_zipWith];omega
 rw [List.take_succ_eq_append_getElem hl];simp [cf,List.getD,h1,h2]
theorem qN (a b:List Rn):aE (a++b)=aE a++aE b:=by simp [aE]
theorem vq {x y:Int} (h:max x 1 <= min y 1000000000):aE [⟨x,y⟩]=[⟨max x 1,min y 1000000000⟩]:=by simp [aE,gU,h]
theorem zaR {x y:Int} (h:¬ max x 1 <= min y 1000000000):aE [⟨x,y⟩]=[]:=by simp [aE,gU,h]
def los (B:List Rn):List Int:=B.map (fun r=>r.lo)
def his (B:List Rn):List Int:=B.map (fun r=>r.hi+1)
def oS (w w':World) (e:Ending) (A:List Rn):Prop:=∃ ao n c X,e = .returned (.slice ao n c)/\V.Src w' ao n c (tn X)/\(∀ ad,ao=some ad -> w.heap.size <= ad.block)/\Below w.heap.size w w'/\aN A X
def SwV (w W:World) (I O:List Int) (i j:Nat) (ao:Option Addr) (cap:Nat) (acc:List Int) (R:List Rn) (s:Option Int):Prop:=dy w.heap.size w.heap.size w W ao cap acc/\Sw I O i j R s/\acc=tn R++s.toList
theorem SwV.len {w W:World} {I O:List Int} {i j:Nat} {ao:Option Addr} {cap:Nat} {acc:List Int} {R:List Rn} {s:Option Int} (h:SwV w W I O i j ao cap acc R s):acc.length <= 1000000003:=by
 have:=qT (Int.le_refl _) h.2.1.fm;rw [h.2.2,List.length_append,jt]
 cases s <;> simp <;> omega
theorem zcP (R:List Rn) (a y:Int):tn R++[a]++[y]=tn (R++[⟨a,y - 1⟩]):=by rw [zin,List.append_assoc];simp
theorem zeu (la lb:Option Addr) (n ca cb:Nat) (Lo Hi:List Int) (w:World) (hA:V.Src w la n ca Lo) (hB:V.Src w lb n cb Hi) (hn:n <= 8796093022207) :
  Calls Tryz.prog 185 #[.slice la n ca,.slice lb n cb] w fun e w'=>oS w w' e (cf Lo Hi):=by
 have HA:=hide hA;have HB:=hide hB
 have MO:Hid ((cf Lo Hi).length=n):=by show _=_;unfold cf;rw [List.length_zipWith,hA.1,hB.1];omega
 clear hA hB;go_enter Tryz.func185,Tryz.ntmps185;go_wp2_with fail;go_loopw [5,6,7] (fun v u vi wr=>∃ (k:Nat) (ai ao:Option Addr) (ci co m:Nat),k <= n/\m <= k/\v = .slice ai m ci/\u = .slice ao m co/\vi = .int .i64 k/\Hid ((aE ((cf Lo Hi).take k)).length=m/\lQ w wr ai ci (los (aE ((cf Lo Hi).take k))) ao co (his (aE ((cf Lo Hi).take k))))) (fun _ _ vi _=>n - (intOf vi).toNat)
 case atStart=>exact ⟨0,none,none,0,0,0,Nat.zero_le _,Nat.zero_le _,rfl,rfl,rfl,by simp [aE],⟨dy.nil (Below.refl _ _) (Nat.le_refl _) (Nat.le_refl _),dy.nil (Below.refl _ _) (Nat.le_refl _) (Nat.le_refl _),fun k h=>by cases h⟩⟩
 case round =>
  obtain ⟨k,ai,ao,ci,co,m,hk,hm,rfl,rfl,rfl,HI⟩:=hrel
  rename World=>w6
  by_cases ak:k < n
  ·obtain ⟨da,mT,q1⟩:=qy (HA.below HI.2.a.below) k ak;obtain ⟨db,mK,q2⟩:=qy (HB.below HI.2.a.below) k ak;subst mT mK;have HZ:=hide (zeq Lo Hi k (by rw [HA.1];exact ak) (by rw [HB.1];exact ak));obtain ⟨x,Hx⟩:∃ x,Hid (Lo.getD k 0=x):=⟨_,rfl⟩;obtain ⟨y,Hy⟩:∃ y,Hid (Hi.getD k 0=y):=⟨_,rfl⟩;rw [Hx.out] at q1 HZ;rw [Hy.out] at q2 HZ;have r1:=cell_regrown q1;have r2:=cell_regrown q2;clear q1 q2;by_cases nR:x < 1
   ·by_cases hy9:1000000000 < y
    ·have lT:Hid (aE ((cf Lo Hi).take (k+1))=aE ((cf Lo Hi).take k)++[⟨1,1000000000⟩]):=by show _=_;rw [HZ.out,qN,vq (by omega),show max x 1=1 by omega,show min y 1000000000=1000000000 by omega]
     go_wp2_with fail;refine wp_region_quiet_below (by kernel_rfl) (by kernel_rfl) ?_
     repeat (with_reducible (refine wpQuiet_step ?_);intro K hK;go_simp;(try rw [if_neg (by unfold undef;simp)]);first | (with_reducible (refine hK _ ?_);clear hK K) | (apply Exists.intro;refine ⟨fun _=>?_,hK _ ?_⟩;(fail);clear hK K))
     with_reducible (refine wpQuiet_nil ?_)
     intro w7 hw';obtain ⟨⟨dq,osq⟩,hw''⟩:=hw'
     have bw7:Below w6.heap.size w6 w7:=by rw [hw''];exact below_regrown w6 dq osq
     clear hw'' dq osq;have m6:=hide (HI.2.on bw7);have iS:=hide HI.1
     have oq:Hid ((los (aE ((cf Lo Hi).take k))).length=m):=by show _=_;unfold los;rw [List.length_map];exact iS.out
     have pQ:Hid ((his (aE ((cf Lo Hi).take k))).length=m):=by show _=_;unfold his;rw [List.length_map];exact iS.out
     clear r1 r2 bw7 HI;go_wp2_with (at_builtin;first | (refine (r9.on (ze w9 (.cells #[.int .i64 (1000000001)] 3))).b.append [1000000001] ⟨w9.heap.size,0,none⟩ 1 1 (eJ w9 (1000000001) _ rfl 3) (by rw [pQ.out];omega) rfl (.tmp 37) (.tmp 40) rfl m pQ.out rfl rfl ?_;intro ao8 c8 w8 O8 h8 z8;have AU:=hide ((r9.on (ze w9 (.cells #[.int .i64 (1000000001)] 3))).growB O8 h8 z8);clear O8 h8 z8) | (refine (m6.on (ze w7 (.cells #[.int .i64 (1)] 3))).a.append [1] ⟨w7.heap.size,0,none⟩ 1 1 (eJ w7 (1) _ rfl 3) (by rw [oq.out];omega) rfl (.tmp 33) (.tmp 35) rfl m oq.out rfl rfl ?_;intro ai9 c9 w9 O9 h9 z9;have r9:=hide ((m6.on (ze w7 (.cells #[.int .i64 (1)] 3))).growA O9 h9 z9);clear O9 h9 z9));go_roundw
     case rel =>
      refine ⟨k+1,ai9,ao8,c9,c8,m+1,by omega,by omega,rfl,rfl,by go_num,?_,?_⟩
      ·rw [lT.out,List.length_append,iS.out];rfl
      ·rw [lT.out]
       have e1:los (aE ((cf Lo Hi).take k)++[⟨1,1000000000⟩])=los (aE ((cf Lo Hi).take k))++[1]:=by simp [los]
       have e2:his (aE ((cf Lo Hi).take k)++[⟨1,1000000000⟩])=his (aE ((cf Lo Hi).take k))++[1000000001]:=by simp [his]
       rw [e1,e2];exact AU.out
     case measure=>simp [intOf];omega
    ·by_cases lM:1 <= y
     ·have lT:Hid (aE ((cf Lo Hi).take (k+1))=aE ((cf Lo Hi).take k)++[⟨1,y⟩]):=by show _=_;rw [HZ.out,qN,vq (by omega),show max x 1=1 by omega,show min y 1000000000=y by omega]
      go_wp2_with fail;refine wp_region_quiet_below (by kernel_rfl) (by kernel_rfl) ?_
      repeat (with_reducible (refine wpQuiet_step ?_);intro K hK;go_simp;(try rw [if_neg (by unfold undef;simp)]);first | (with_reducible (refine hK _ ?_);clear hK K) | (apply Exists.intro;refine ⟨fun _=>?_,hK _ ?_⟩;(fail);clear hK K))
      with_reducible (refine wpQuiet_nil ?_)
      intro w7 hw';obtain ⟨⟨dq,osq⟩,hw''⟩:=hw'
      have bw7:Below w6.heap.size w6 w7:=by rw [hw''];exact below_regrown w6 dq osq
      clear hw'' dq osq;have m6:=hide (HI.2.on bw7);have iS:=hide HI.1
      have oq:Hid ((los (aE ((cf Lo Hi).take k))).length=m):=by show _=_;unfold los;rw [List.length_map];exact iS.out
      have pQ:Hid ((his (aE ((cf Lo Hi).take k))).length=m):=by show _=_;unfold his;rw [List.length_map];exact iS.out
      clear r1 r2 bw7 HI
      have Bw:IntKind.i64.wrap (y+1)=y+1:=by rw [IntKind.wrap_i64];omega
      go_wp2_with (at_builtin;first | (refine (r9.on (ze w9 (.cells #[.int .i64 (y+1)] 3))).b.append [y+1] ⟨w9.heap.size,0,none⟩ 1 1 (eJ w9 (y+1) _ rfl 3) (by rw [pQ.out];omega) rfl (.tmp 37) (.tmp 40) rfl m pQ.out rfl rfl ?_;intro ao8 c8 w8 O8 h8 z8;have AU:=hide ((r9.on (ze w9 (.cells #[.int .i64 (y+1)] 3))).growB O8 h8 z8);clear O8 h8 z8) | (refine (m6.on (ze w7 (.cells #[.int .i64 (1)] 3))).a.append [1] ⟨w7.heap.size,0,none⟩ 1 1 (eJ w7 (1) _ rfl 3) (by rw [oq.out];omega) rfl (.tmp 33) (.tmp 35) rfl m oq.out rfl rfl ?_;intro ai9 c9 w9 O9 h9 z9;have r9:=hide ((m6.on (ze w7 (.cells #[.int .i64 (1)] 3))).growA O9 h9 z9);clear O9 h9 z9));go_roundw
      case rel =>
       refine ⟨k+1,ai9,ao8,c9,c8,m+1,by omega,by omega,rfl,rfl,by go_num,?_,?_⟩
       ·rw [lT.out,List.length_append,iS.out];rfl
       ·rw [lT.out]
        have e1:los (aE ((cf Lo Hi).take k)++[⟨1,y⟩])=los (aE ((cf Lo Hi).take k))++[1]:=by simp [los]
        have e2:his (aE ((cf Lo Hi).take k)++[⟨1,y⟩])=his (aE ((cf Lo Hi).take k))++[y+1]:=by simp [his]
        rw [e1,e2];exact AU.out
      case measure=>simp [intOf];omega
     ·have lT:Hid (aE ((cf Lo Hi).take (k+1))=aE ((cf Lo Hi).take k)):=by show _=_;rw [HZ.out,qN,zaR (by omega),List.append_nil]
      go_wp2_with fail;refine wp_region_quiet_below (by kernel_rfl) (by kernel_rfl) ?_
      repeat (with_reducible (refine wpQuiet_step ?_);intro K hK;go_simp;(try rw [if_neg (by unfold undef;simp)]);first | (with_reducible (refine hK _ ?_);clear hK K) | (apply Exists.intro;refine ⟨fun _=>?_,hK _ ?_⟩;(fail);clear hK K))
      with_reducible (refine wpQuiet_nil ?_)
      intro w7 hw';obtain ⟨⟨dq,osq⟩,hw''⟩:=hw'
      have bw7:Below w6.heap.size w6 w7:=by rw [hw''];exact below_regrown w6 dq osq
      clear hw'' dq osq;have m6:=hide (HI.2.on bw7);have iS:=hide HI.1;clear r1 r2 bw7 HI;go_wp2_with fail;go_roundw
      case rel=>exact ⟨k+1,ai,ao,ci,co,m,by omega,by omega,rfl,rfl,by go_num,by rw [lT.out];exact iS,by rw [lT.out];exact m6⟩
      case measure=>simp [intOf];omega
   ·by_cases hy9:1000000000 < y
    ·by_cases lM:x <= 1000000000
     ·have lT:Hid (aE ((cf Lo Hi).take (k+1))=aE ((cf Lo Hi).take k)++[⟨x,1000000000⟩]):=by show _=_;rw [HZ.out,qN,vq (by omega),show max x 1=x by omega,show min y 1000000000=1000000000 by omega]
      go_wp2_with fail;refine wp_region_quiet_below (by kernel_rfl) (by kernel_rfl) ?_
      repeat (with_reducible (refine wpQuiet_step ?_);intro K hK;go_simp;(try rw [if_neg (by unfold undef;simp)]);first | (with_reducible (refine hK _ ?_);clear hK K) | (apply Exists.intro;refine ⟨fun _=>?_,hK _ ?_⟩;(fail);clear hK K))
      with_reducible (refine wpQuiet_nil ?_)
      intro w7 hw';obtain ⟨⟨dq,osq⟩,hw''⟩:=hw'
      have bw7:Below w6.heap.size w6 w7:=by rw [hw''];exact below_regrown w6 dq osq
      clear hw'' dq osq;have m6:=hide (HI.2.on bw7);have iS:=hide HI.1
      have oq:Hid ((los (aE ((cf Lo Hi).take k))).length=m):=by show _=_;unfold los;rw [List.length_map];exact iS.out
      have pQ:Hid ((his (aE ((cf Lo Hi).take k))).length=m):=by show _=_;unfold his;rw [List.length_map];exact iS.out
      clear r1 r2 bw7 HI;go_wp2_with (at_builtin;first | (refine (r9.on (ze w9 (.cells #[.int .i64 (1000000001)] 3))).b.append [1000000001] ⟨w9.heap.size,0,none⟩ 1 1 (eJ w9 (1000000001) _ rfl 3) (by rw [pQ.out];omega) rfl (.tmp 37) (.tmp 40) rfl m pQ.out rfl rfl ?_;intro ao8 c8 w8 O8 h8 z8;have AU:=hide ((r9.on (ze w9 (.cells #[.int .i64 (1000000001)] 3))).growB O8 h8 z8);clear O8 h8 z8) | (refine (m6.on (ze w7 (.cells #[.int .i64 (x)] 3))).a.append [x] ⟨w7.heap.size,0,none⟩ 1 1 (eJ w7 (x) _ rfl 3) (by rw [oq.out];omega) rfl (.tmp 33) (.tmp 35) rfl m oq.out rfl rfl ?_;intro ai9 c9 w9 O9 h9 z9;have r9:=hide ((m6.on (ze w7 (.cells #[.int .i64 (x)] 3))).growA O9 h9 z9);clear O9 h9 z9));go_roundw
      case rel =>
       refine ⟨k+1,ai9,ao8,c9,c8,m+1,by omega,by omega,rfl,rfl,by go_num,?_,?_⟩
       ·rw [lT.out,List.length_append,iS.out];rfl
       ·rw [lT.out]
        have e1:los (aE ((cf Lo Hi).take k)++[⟨x,1000000000⟩])=los (aE ((cf Lo Hi).take k))++[x]:=by simp [los]
        have e2:his (aE ((cf Lo Hi).take k)++[⟨x,1000000000⟩])=his (aE ((cf Lo Hi).take k))++[1000000001]:=by simp [his]
        rw [e1,e2];exact AU.out
      case measure=>simp [intOf];omega
     ·have lT:Hid (aE ((cf Lo Hi).take (k+1))=aE ((cf Lo Hi).take k)):=by show _=_;rw [HZ.out,qN,zaR (by omega),List.append_nil]
      go_wp2_with fail;refine wp_region_quiet_below (by kernel_rfl) (by kernel_rfl) ?_
      repeat (with_reducible (refine wpQuiet_step ?_);intro K hK;go_simp;(try rw [if_neg (by unfold undef;simp)]);first | (with_reducible (refine hK _ ?_);clear hK K) | (apply Exists.intro;refine ⟨fun _=>?_,hK _ ?_⟩;(fail);clear hK K))
      with_reducible (refine wpQuiet_nil ?_)
      intro w7 hw';obtain ⟨⟨dq,osq⟩,hw''⟩:=hw'
      have bw7:Below w6.heap.size w6 w7:=by rw [hw''];exact below_regrown w6 dq osq
      clear hw'' dq osq;have m6:=hide (HI.2.on bw7);have iS:=hide HI.1;clear r1 r2 bw7 HI;go_wp2_with fail;go_roundw
      case rel=>exact ⟨k+1,ai,ao,ci,co,m,by omega,by omega,rfl,rfl,by go_num,by rw [lT.out];exact iS,by rw [lT.out];exact m6⟩
      case measure=>simp [intOf];omega
    ·by_cases lM:x <= y
     ·have lT:Hid (aE ((cf Lo Hi).take (k+1))=aE ((cf Lo Hi).take k)++[⟨x,y⟩]):=by show _=_;rw [HZ.out,qN,vq (by omega),show max x 1=x by omega,show min y 1000000000=y by omega]
      go_wp2_with fail;refine wp_region_quiet_below (by kernel_rfl) (by kernel_rfl) ?_
      repeat (with_reducible (refine wpQuiet_step ?_);intro K hK;go_simp;(try rw [if_neg (by unfold undef;simp)]);first | (with_reducible (refine hK _ ?_);clear hK K) | (apply Exists.intro;refine ⟨fun _=>?_,hK _ ?_⟩;(fail);clear hK K))
      with_reducible (refine wpQuiet_nil ?_)
      intro w7 hw';obtain ⟨⟨dq,osq⟩,hw''⟩:=hw'
      have bw7:Below w6.heap.size w6 w7:=by rw [hw''];exact below_regrown w6 dq osq
      clear hw'' dq osq;have m6:=hide (HI.2.on bw7);have iS:=hide HI.1
      have oq:Hid ((los (aE ((cf Lo Hi).take k))).length=m):=by show _=_;unfold los;rw [List.length_map];exact iS.out
      have pQ:Hid ((his (aE ((cf Lo Hi).take k))).length=m):=by show _=_;unfold his;rw [List.length_map];exact iS.out
      clear r1 r2 bw7 HI
      have Bw:IntKind.i64.wrap (y+1)=y+1:=by rw [IntKind.wrap_i64];omega
      go_wp2_with (at_builtin;first | (refine (r9.on (ze w9 (.cells #[.int .i64 (y+1)] 3))).b.append [y+1] ⟨w9.heap.size,0,none⟩ 1 1 (eJ w9 (y+1) _ rfl 3) (by rw [pQ.out];omega) rfl (.tmp 37) (.tmp 40) rfl m pQ.out rfl rfl ?_;intro ao8 c8 w8 O8 h8 z8;have AU:=hide ((r9.on (ze w9 (.cells #[.int .i64 (y+1)] 3))).growB O8 h8 z8);clear O8 h8 z8) | (refine (m6.on (ze w7 (.cells #[.int .i64 (x)] 3))).a.append [x] ⟨w7.heap.size,0,none⟩ 1 1 (eJ w7 (x) _ rfl 3) (by rw [oq.out];omega) rfl (.tmp 33) (.tmp 35) rfl m oq.out rfl rfl ?_;intro ai9 c9 w9 O9 h9 z9;have r9:=hide ((m6.on (ze w7 (.cells #[.int .i64 (x)] 3))).growA O9 h9 z9);clear O9 h9 z9));go_roundw
      case rel =>
       refine ⟨k+1,ai9,ao8,c9,c8,m+1,by omega,by omega,rfl,rfl,by go_num,?_,?_⟩
       ·rw [lT.out,List.length_append,iS.out];rfl
       ·rw [lT.out]
        have e1:los (aE ((cf Lo Hi).take k)++[⟨x,y⟩])=los (aE ((cf Lo Hi).take k))++[x]:=by simp [los]
        have e2:his (aE ((cf Lo Hi).take k)++[⟨x,y⟩])=his (aE ((cf Lo Hi).take k))++[y+1]:=by simp [his]
        rw [e1,e2];exact AU.out
      case measure=>simp [intOf];omega
     ·have lT:Hid (aE ((cf Lo Hi).take (k+1))=aE ((cf Lo Hi).take k)):=by show _=_;rw [HZ.out,qN,zaR (by omega),List.append_nil]
      go_wp2_with fail;refine wp_region_quiet_below (by kernel_rfl) (by kernel_rfl) ?_
      repeat (with_reducible (refine wpQuiet_step ?_);intro K hK;go_simp;(try rw [if_neg (by unfold undef;simp)]);first | (with_reducible (refine hK _ ?_);clear hK K) | (apply Exists.intro;refine ⟨fun _=>?_,hK _ ?_⟩;(fail);clear hK K))
      with_reducible (refine wpQuiet_nil ?_)
      intro w7 hw';obtain ⟨⟨dq,osq⟩,hw''⟩:=hw'
      have bw7:Below w6.heap.size w6 w7:=by rw [hw''];exact below_regrown w6 dq osq
      clear hw'' dq osq;have m6:=hide (HI.2.on bw7);have iS:=hide HI.1;clear r1 r2 bw7 HI;go_wp2_with fail;go_roundw
      case rel=>exact ⟨k+1,ai,ao,ci,co,m,by omega,by omega,rfl,rfl,by go_num,by rw [lT.out];exact iS,by rw [lT.out];exact m6⟩
      case measure=>simp [intOf];omega
  ·obtain rfl:k=n:=by omega
   have Fy:(cf Lo Hi).take k=cf Lo Hi:=List.take_of_length_le (by rw [MO.out];exact Nat.le_refl _);rw [Fy] at HI;have iS:=hide HI.1
   have oq:Hid ((los (aE (cf Lo Hi))).length=m):=by show _=_;unfold los;rw [List.length_map];exact iS.out
   have pQ:Hid ((his (aE (cf Lo Hi))).length=m):=by show _=_;unfold his;rw [List.length_map];exact iS.out
   obtain ⟨s1,_,g1,m1⟩:=HI.2.a.src;obtain ⟨s2,_,g2,m2⟩:=HI.2.b.src;rw [oq.out] at s1 g1;rw [pQ.out] at s2 g2;have dg:=hide s1;have dZ:=hide s2;have Bf:=hide (And.intro g1 m1);have D6:=hide (And.intro g2 m2);have eC:=hide HI.2.a.below;clear s1 s2 g1 g2 m1 m2 HI Fy iS;go_wp2_with fail;refine (y8 m ai ci _ _ dg.out Bf.1 Bf.2 (by omega)).mono ?_;rintro e w1 ⟨a1,c1,I,rfl,S1,_,_,_,b1,p1,t1⟩;have GG:=hide (And.intro p1 t1);have FP:=hide S1;have aM:=wTr eC b1;replace dZ:=hide (dZ.below b1);clear S1 b1 p1 t1 dg Bf;go_wp2_with fail;refine (y8 m ao co _ _ dZ.out D6.1 D6.2 (by omega)).mono ?_;rintro e w2 ⟨a2,c2,O,rfl,S2,_,_,_,b2,p2,t2⟩;have Al:=hide (And.intro p2 t2);have Ig:=hide S2;replace FP:=hide (FP.below b2);have cu:=wTr aM b2;clear S2 b2 p2 t2 dZ D6 aM eC
   have tL:=hide (zjd (B:=aE (cf Lo Hi)) (fun r hr=>wG _ r hr) GG.1 Al.1 GG.2 Al.2);have BC:Hid (I.length=m):=FP.1;have Il:Hid (O.length=m):=Ig.1;go_wp2_with fail;go_loopw [10,11,12,13] (fun v dv vj vi wr=>∃ (i j:Nat) (ao:Option Addr) (cap l:Nat) (acc:List Int) (R:List Rn) (s:Option Int) (dp:Int),i <= m/\j <= m/\v = .slice ao l cap/\dv = .int .i64 dp/\vj = .int .i64 j/\vi = .int .i64 i/\dp=(i:Int) - (j:Int)/\Hid (acc.length=l/\SwV w2 wr I O i j ao cap acc R s)) (fun _ _ vj vi _=>2 * m - ((intOf vi).toNat+(intOf vj).toNat))
   case atStart=>exact ⟨0,0,none,0,0,[],[],none,0,Nat.zero_le _,Nat.zero_le _,rfl,rfl,rfl,rfl,by omega,rfl,dy.nil (Below.refl _ _) (Nat.le_refl _) (Nat.le_refl _),Sw.start I O,rfl⟩
   case round =>
    obtain ⟨i,j,ao,cap,l,acc,R,s,dp,hi,hj,rfl,rfl,rfl,rfl,KK,HI⟩:=hrel
    rename World=>v6
    have rD:=HI.2.2.1.ij;have rC:=hide KK
    have mK : -1 < dp/\dp < 8796093022209:=by omega
    clear KK;have od:=hide HI.2.len;by_cases him:i < m
    ·have o9:j < m:=by omega
     obtain ⟨da,mT,q1⟩:=qy (FP.below HI.2.1.below) i him;obtain ⟨db,mK,q2⟩:=qy (Ig.below HI.2.1.below) j o9;subst mT mK;have HX:Hid (I[i]? = some (I.getD i 0)):=getD_some I i (by rw [BC.out];exact him);have HY:Hid (O[j]? = some (O.getD j 0)):=getD_some O j (by rw [Il.out];exact o9);obtain ⟨x,Hx⟩:∃ x,Hid (I.getD i 0=x):=⟨_,rfl⟩;obtain ⟨y,Hy⟩:∃ y,Hid (O.getD j 0=y):=⟨_,rfl⟩;rw [Hx.out] at q1 HX;rw [Hy.out] at q2 HY;have r1:=cell_regrown q1;have r2:=cell_regrown q2;by_cases lM:x <= y
     ·have HN:=hide (HI.2.2.1.inn tL.out HX.out (fun z hz=>by rw [HY.out] at hz;obtain rfl:=Option.some.inj hz;exact lM))
      cases s with
      | none =>
       have Fm:dp=0:=by have:=HI.2.2.1.st.1 rfl;have:=rC.out;omega
       subst Fm;rw [Option.getD_none] at HN
       have HE:Hid (acc=tn R):=by have:=HI.2.2.2;show _=_;simpa using this
       have fW:=hide HI.1;go_wp2_with fail;refine wp_region_quiet_below (by kernel_rfl) (by kernel_rfl) ?_
       repeat (with_reducible (refine wpQuiet_step ?_);intro K hK;go_simp;(try rw [if_neg (by unfold undef;simp)]);first | (with_reducible (refine hK _ ?_);clear hK K) | (apply Exists.intro;refine ⟨fun _=>?_,hK _ ?_⟩;(fail);clear hK K))
       with_reducible (refine wpQuiet_nil ?_)
       intro v7 hw';obtain ⟨⟨dq,osq⟩,hw''⟩:=hw'
       have bv7:Below v6.heap.size v6 v7:=by rw [hw''];exact below_regrown v6 dq osq
       clear hw'' dq osq;have fj:=hide (HI.2.1.later bv7);have q7:=(bv7.cell (World.block_lt_of_cell? _ _ q1)).trans q1;clear r1 r2 bv7 HI q1 q2;go_wp2_with (at_builtin;refine (fj.later (ze v7 _)).append [x] ⟨v7.heap.size,0,none⟩ 1 1 (eJ v7 x _ rfl 3) (by have:=od.out;omega) rfl (.tmp 73) (.tmp 78) rfl l fW.out rfl rfl ?_;intro ao8 c8 v8 O8 _ _;have eO:=hide O8;clear O8);go_roundw
       case rel=>exact ⟨i+1,j,ao8,c8,l+1,acc++[x],R,some x,1,by omega,by omega,rfl,rfl,rfl,by go_num,by have:=rC.out;omega,by rw [List.length_append,fW.out];rfl,eO.out,HN.out,by rw [HE.out];rfl⟩
       case measure=>simp [intOf];omega
      | some a =>
       have Fm:(dp == 0)=false:=by
        have h:¬ i=j:=fun e=>by have:=HI.2.2.1.st.2 e;cases this
        have:=rC.out;simp;omega
       rw [Option.getD_some] at HN;have HE:=hide HI.2.2.2;have fW:=hide HI.1
       have Bw:IntKind.i64.wrap (dp+1)=dp+1:=by rw [IntKind.wrap_i64];omega
       go_wp2_with fail;refine wp_region_quiet_below (by kernel_rfl) (by kernel_rfl) ?_
       repeat (with_reducible (refine wpQuiet_step ?_);intro K hK;go_simp;(try rw [if_neg (by unfold undef;simp)]);first | (with_reducible (refine hK _ ?_);clear hK K) | (apply Exists.intro;refine ⟨fun _=>?_,hK _ ?_⟩;(fail);clear hK K))
       with_reducible (refine wpQuiet_nil ?_)
       intro v7 hw';obtain ⟨⟨dq,osq⟩,hw''⟩:=hw'
       have bv7:Below v6.heap.size v6 v7:=by rw [hw''];exact below_regrown v6 dq osq
       clear hw'' dq osq;have fj:=hide (HI.2.1.later bv7);clear r1 r2 bv7 HI q1 q2;go_wp2_with fail;go_roundw
       case rel=>exact ⟨i+1,j,ao,cap,l,acc,R,some a,dp+1,by omega,by omega,rfl,by go_num,rfl,by go_num,by have:=rC.out;omega,fW.out,fj.out,HN.out,HE.out⟩
       case measure=>simp [intOf];omega
     ·have ug:=decide_eq_false lM
      have fQ:Hid (∀ z,I[i]? = some z -> y < z):=fun z hz=>by rw [HX.out] at hz;obtain rfl:=Option.some.inj hz;omega
      have G1:=hide (HI.2.2.1.deep tL.out HY.out fQ);have GR:=G1.1
      cases s with
      | none=>have:=HI.2.2.1.st.1 rfl;omega
      | some a =>
       have Ep:=hide (HI.2.2.1.out tL.out HY.out fQ);have fW:=hide HI.1;have HE:=hide HI.2.2.2
       have Bw:IntKind.i64.wrap (dp - 1)=dp - 1:=by rw [IntKind.wrap_i64];omega
       by_cases fT:i=j+1
       ·have HN:=hide (Ep.2 fT).2
        have Jy:dp=1:=by have:=rC.out;omega
        subst Jy;clear fT;go_wp2_with fail;refine wp_region_quiet_below (by kernel_rfl) (by kernel_rfl) ?_
        repeat (with_reducible (refine wpQuiet_step ?_);intro K hK;go_simp;(try rw [if_neg (by unfold undef;simp)]);first | (with_reducible (refine hK _ ?_);clear hK K) | (apply Exists.intro;refine ⟨fun _=>?_,hK _ ?_⟩;(fail);clear hK K))
        with_reducible (refine wpQuiet_nil ?_)
        intro v7 hw';obtain ⟨⟨dq,osq⟩,hw''⟩:=hw'
        have bv7:Below v6.heap.size v6 v7:=by rw [hw''];exact below_regrown v6 dq osq
        clear hw'' dq osq;have fj:=hide (HI.2.1.later bv7);have q7:=(bv7.cell (World.block_lt_of_cell? _ _ q2)).trans q2;clear bv7 HI q2 q1 r1 r2 ug;go_wp2_with (at_builtin;refine (fj.later (ze v7 _)).append [y] ⟨v7.heap.size,0,none⟩ 1 1 (eJ v7 y _ rfl 3) (by have:=od.out;omega) rfl (.tmp 88) (.tmp 93) rfl l fW.out rfl rfl ?_;intro ao8 c8 v8 O8 _ _;have eO:=hide O8;clear O8);go_roundw
        case rel=>exact ⟨i,j+1,ao8,c8,l+1,acc++[y],R++[⟨a,y - 1⟩],none,0,by omega,by omega,rfl,rfl,by go_num,rfl,by have:=rC.out;omega,by rw [List.length_append,fW.out];rfl,eO.out,HN.out,by rw [HE.out];simp only [Option.toList_some,Option.toList_none,List.append_nil];exact zcP R a y⟩
        case measure=>simp [intOf];omega
       ·have tS:(dp - 1 == 0)=false:=by have:=rC.out;simp;omega
        have HN:=hide (Ep.1 fT);go_wp2_with fail;refine wp_region_quiet_below (by kernel_rfl) (by kernel_rfl) ?_
        repeat (with_reducible (refine wpQuiet_step ?_);intro K hK;go_simp;(try rw [if_neg (by unfold undef;simp)]);first | (with_reducible (refine hK _ ?_);clear hK K) | (apply Exists.intro;refine ⟨fun _=>?_,hK _ ?_⟩;(fail);clear hK K))
        with_reducible (refine wpQuiet_nil ?_)
        intro v7 hw';obtain ⟨⟨dq,osq⟩,hw''⟩:=hw'
        have bv7:Below v6.heap.size v6 v7:=by rw [hw''];exact below_regrown v6 dq osq
        clear hw'' dq osq;have fj:=hide (HI.2.1.later bv7);clear bv7 HI q2 q1 r1 r2 ug;go_wp2_with fail;go_roundw
        case rel=>exact ⟨i,j+1,ao,cap,l,acc,R,some a,dp - 1,by omega,by omega,rfl,by go_num,by go_num,rfl,by have:=rC.out;omega,fW.out,fj.out,HN.out,HE.out⟩
        case measure=>simp [intOf];omega
    ·by_cases o9:j < m
     ·obtain ⟨db,mK,q2⟩:=qy (Ig.below HI.2.1.below) j o9;subst mK;have HY:Hid (O[j]? = some (O.getD j 0)):=getD_some O j (by rw [Il.out];exact o9);obtain ⟨y,Hy⟩:∃ y,Hid (O.getD j 0=y):=⟨_,rfl⟩;rw [Hy.out] at q2 HY;have r2:=cell_regrown q2
      have G2:¬ (i:Int) < (m:Int):=by omega
      have fQ:Hid (∀ z,I[i]? = some z -> y < z):=fun z hz=>by
       have:=(List.getElem?_eq_some_iff.1 hz).1;rw [BC.out] at this;omega
      have G1:=hide (HI.2.2.1.deep tL.out HY.out fQ);have GR:=G1.1
      cases s with
      | none=>have:=HI.2.2.1.st.1 rfl;omega
      | some a =>
       have Ep:=hide (HI.2.2.1.out tL.out HY.out fQ);have fW:=hide HI.1;have HE:=hide HI.2.2.2
       have Bw:IntKind.i64.wrap (dp - 1)=dp - 1:=by rw [IntKind.wrap_i64];omega
       by_cases fT:i=j+1
       ·have HN:=hide (Ep.2 fT).2
        have Jy:dp=1:=by have:=rC.out;omega
        subst Jy;clear fT;go_wp2_with fail;refine wp_region_quiet_below (by kernel_rfl) (by kernel_rfl) ?_
        repeat (with_reducible (refine wpQuiet_step ?_);intro K hK;go_simp;(try rw [if_neg (by unfold undef;simp)]);first | (with_reducible (refine hK _ ?_);clear hK K) | (apply Exists.intro;refine ⟨fun _=>?_,hK _ ?_⟩;(fail);clear hK K))
        with_reducible (refine wpQuiet_nil ?_)
        intro v7 hw';obtain ⟨⟨dq,osq⟩,hw''⟩:=hw'
        have bv7:Below v6.heap.size v6 v7:=by rw [hw''];exact below_regrown v6 dq osq
        clear hw'' dq osq;have fj:=hide (HI.2.1.later bv7);have q7:=(bv7.cell (World.block_lt_of_cell? _ _ q2)).trans q2;clear bv7 HI q2 r2;go_wp2_with (at_builtin;refine (fj.later (ze v7 _)).append [y] ⟨v7.heap.size,0,none⟩ 1 1 (eJ v7 y _ rfl 3) (by have:=od.out;omega) rfl (.tmp 88) (.tmp 93) rfl l fW.out rfl rfl ?_;intro ao8 c8 v8 O8 _ _;have eO:=hide O8;clear O8);go_roundw
        case rel=>exact ⟨i,j+1,ao8,c8,l+1,acc++[y],R++[⟨a,y - 1⟩],none,0,by omega,by omega,rfl,rfl,by go_num,rfl,by have:=rC.out;omega,by rw [List.length_append,fW.out];rfl,eO.out,HN.out,by rw [HE.out];simp only [Option.toList_some,Option.toList_none,List.append_nil];exact zcP R a y⟩
        case measure=>simp [intOf];omega
       ·have tS:(dp - 1 == 0)=false:=by have:=rC.out;simp;omega
        have HN:=hide (Ep.1 fT);go_wp2_with fail;refine wp_region_quiet_below (by kernel_rfl) (by kernel_rfl) ?_
        repeat (with_reducible (refine wpQuiet_step ?_);intro K hK;go_simp;(try rw [if_neg (by unfold undef;simp)]);first | (with_reducible (refine hK _ ?_);clear hK K) | (apply Exists.intro;refine ⟨fun _=>?_,hK _ ?_⟩;(fail);clear hK K))
        with_reducible (refine wpQuiet_nil ?_)
        intro v7 hw';obtain ⟨⟨dq,osq⟩,hw''⟩:=hw'
        have bv7:Below v6.heap.size v6 v7:=by rw [hw''];exact below_regrown v6 dq osq
        clear hw'' dq osq;have fj:=hide (HI.2.1.later bv7);clear bv7 HI q2 r2;go_wp2_with fail;go_roundw
        case rel=>exact ⟨i,j+1,ao,cap,l,acc,R,some a,dp - 1,by omega,by omega,rfl,by go_num,by go_num,rfl,by have:=rC.out;omega,fW.out,fj.out,HN.out,HE.out⟩
        case measure=>simp [intOf];omega
     ·obtain rfl:i=m:=by omega
      obtain rfl:j=i:=by omega
      have G2:¬ (j:Int) < (j:Int):=by omega
      obtain ⟨hs,hN⟩:=HI.2.2.1.done GG.1 Al.1 BC.out Il.out;subst hs;obtain ⟨S3,f3,_,_⟩:=HI.2.1.src;have e3:=HI.1;have e4:=HI.2.2.2;rw [e3] at S3;simp only [Option.toList_none,List.append_nil] at e4;rw [e4] at S3;have HG:Hid (oS w v6 (.returned (.slice ao l cap)) (cf Lo Hi)):=⟨ao,l,cap,R,rfl,S3,fun ad h=>Nat.le_trans cu.size (f3 ad h),cu.trans (HI.2.1.below.mono cu.size),hN⟩;clear S3 f3 e3 e4 hN HI;go_wp2_with fail;go_ret;exact HG.out
end Go.Proofs.YtjffpimfngdggaaGreat
