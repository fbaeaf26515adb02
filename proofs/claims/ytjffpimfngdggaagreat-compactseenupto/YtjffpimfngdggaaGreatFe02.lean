/- QTu -/
import Derived.Test.YtjffpimfngdggaaGreatTk
import Derived.Test.YtjffpimfngdggaaGreatFe01
set_option maxRecDepth 100000
set_option maxHeartbeats 4000000
namespace Go.Proofs.YtjffpimfngdggaaGreat
open Go.RowKit

theorem dz.keep {B0 B:Nat} {w w' w2:World} {ao xo:Option Addr} {cap xc:Nat} {acc X:List Int} (O:dz B0 B w w' xo xc X) (hb:Below B0 w w2) (dP:w'.heap.size <= w2.heap.size)
  (h:∀ k,k < w'.heap.size -> (Value.slice ao acc.length cap).ownBlock≠some k -> w2.heap[k]? = w'.heap[k]?) (ch:∀ k,(Value.slice xo X.length xc).ownBlock=some k -> (Value.slice ao acc.length cap).ownBlock≠some k):dz B0 B w w2 xo xc X:=by
 refine ⟨⟨O.own.1,?_⟩,hb,Nat.le_trans O.hB dP,O.hB0⟩;rcases O.own.2 with h0 | ⟨g,cap2,cur,hv,dN,dy,r⟩
 ·exact Or.inl h0
 ·refine Or.inr ⟨g,cap2,cur,hv,dN,(h g (Array.getElem?_eq_some_iff.1 dy).1 (ch g ?_)).trans dy,r⟩;rw [hv];rfl
structure lm (w W:World) (ai:Option Addr) (ci:Nat) (I:List Int) (ao:Option Addr) (co:Nat) (O:List Int):Prop where
 a:dz w.heap.size w.heap.size w W ai ci I
 b:dz w.heap.size w.heap.size w W ao co O
 d:∀ k,(Value.slice ai I.length ci).ownBlock=some k -> (Value.slice ao O.length co).ownBlock≠some k
theorem lm.on {w W W':World} {ai ao:Option Addr} {ci co:Nat} {I O:List Int} (T:lm w W ai ci I ao co O) (hb:Below W.heap.size W W'):lm w W' ai ci I ao co O:=⟨T.a.later hb,T.b.later hb,T.d⟩
theorem zhs {ao:Option Addr} {n c k:Nat} (h:(Value.slice ao n c).ownBlock=some k):∃ ad,ao=some ad/\ad.block=k:=by
 cases ao with
 | none=>cases h
 | some ad=>exact ⟨ad,rfl,Option.some.inj h⟩
theorem lm.growA {w W W2:World} {ai ao ai2:Option Addr} {ci co ci2:Nat} {I O I2:List Int} (T:lm w W ai ci I ao co O) (N:dz w.heap.size w.heap.size w W2 ai2 ci2 I2) (h:∀ k,k < W.heap.size -> (Value.slice ai I.length ci).ownBlock≠some k -> W2.heap[k]? = W.heap[k]? /\ ∀ ad2,ai2=some ad2 -> ad2.block≠k) (dP:W.heap.size <= W2.heap.size):lm w W2 ai2 ci2 I2 ao co O:=by
 refine ⟨N,T.b.keep N.below dP (fun k h1 h2=>(h k h1 h2).1) (fun k hk e=>T.d k e hk),fun k hk e=>?_⟩;obtain ⟨ad2,e2,e3⟩:=zhs hk;have ak:=(T.b.lt e).2;exact (h k ak (fun e4=>T.d k e4 e)).2 ad2 e2 e3
theorem lm.growB {w W W2:World} {ai ao ao2:Option Addr} {ci co co2:Nat} {I O O2:List Int} (T:lm w W ai ci I ao co O) (N:dz w.heap.size w.heap.size w W2 ao2 co2 O2) (h:∀ k,k < W.heap.size -> (Value.slice ao O.length co).ownBlock≠some k -> W2.heap[k]? = W.heap[k]? /\ ∀ ad2,ao2=some ad2 -> ad2.block≠k) (dP:W.heap.size <= W2.heap.size):lm w W2 ai ci I ao2 co2 O2:=by
 refine ⟨T.a.keep N.below dP (fun k h1 h2=>(h k h1 h2).1) (fun k hk e=>T.d k hk e),N,fun k hk e=>?_⟩;obtain ⟨ad2,e2,e3⟩:=zhs e;have ak:=(T.a.lt hk).2;exact (h k ak (fun e4=>T.d k hk e4)).2 ad2 e2 e3
def cd (Lo Hi:List Int):List Rn:=List.zipWith (fun a b=>⟨a,b⟩) Lo Hi
theorem zdT (Lo Hi:List Int) (k:Nat) (h1:k < Lo.length) (h2:k < Hi.length):(cd Lo Hi).take (k+1)=(cd Lo Hi).take k++[⟨Lo.getD k 0,Hi.getD k 0⟩]:=by
 have hl:k < (cd Lo Hi).length:=by unfold cd;rw [List.length_zipWith];omega
 rw [List.take_succ_eq_append_getElem hl];simp [cd,List.getD,h1,h2]
theorem qL (a b:List Rn):aC (a++b)=aC a++aC b:=by simp [aC]
theorem kZ {x y:Int} (h:max x 1 <= min y 1000000000):aC [⟨x,y⟩]=[⟨max x 1,min y 1000000000⟩]:=by simp [aC,gC,h]
theorem zaw {x y:Int} (h:¬ max x 1 <= min y 1000000000):aC [⟨x,y⟩]=[]:=by simp [aC,gC,h]
def los (B:List Rn):List Int:=B.map (fun r=>r.lo)
def his (B:List Rn):List Int:=B.map (fun r=>r.hi+1)
def oa (w w':World) (e:Ending) (A:List Rn):Prop:=∃ ao n c X,e = .returned (.slice ao n c)/\V.Src w' ao n c (tn X)/\(∀ ad,ao=some ad -> w.heap.size <= ad.block)/\Below w.heap.size w w'/\aT A X
def SwV (w W:World) (I O:List Int) (i j:Nat) (ao:Option Addr) (cap:Nat) (acc:List Int) (R:List Rn) (s:Option Int):Prop:=dz w.heap.size w.heap.size w W ao cap acc/\Sw I O i j R s/\acc=tn R++s.toList
theorem SwV.len {w W:World} {I O:List Int} {i j:Nat} {ao:Option Addr} {cap:Nat} {acc:List Int} {R:List Rn} {s:Option Int} (h:SwV w W I O i j ao cap acc R s):acc.length <= 1000000003:=by
 have:=xt (Int.le_refl _) h.2.1.fm;rw [h.2.2,List.length_append,wG]
 cases s <;> simp <;> omega
theorem zcp (R:List Rn) (a y:Int):tn R++[a]++[y]=tn (R++[⟨a,y - 1⟩]):=by rw [zhN,List.append_assoc];simp
theorem zdX (la lb:Option Addr) (n ca cb:Nat) (Lo Hi:List Int) (w:World) (hA:V.Src w la n ca Lo) (hB:V.Src w lb n cb Hi) (hn:n <= 8796093022207) :
  Calls Tryz.prog 185 #[.slice la n ca,.slice lb n cb] w fun e w'=>oa w w' e (cd Lo Hi):=by
 have HA:=hide hA;have HB:=hide hB
 have Mk:Hid ((cd Lo Hi).length=n):=by show _=_;unfold cd;rw [List.length_zipWith,hA.1,hB.1];omega
 clear hA hB;go_enter Tryz.func185,Tryz.ntmps185;go_wp2_with fail;go_loopw [5,6,7] (fun v u vi wr=>∃ (k:Nat) (ai ao:Option Addr) (ci co m:Nat),k <= n/\m <= k/\v = .slice ai m ci/\u = .slice ao m co/\vi = .int .i64 k/\Hid ((aC ((cd Lo Hi).take k)).length=m/\lm w wr ai ci (los (aC ((cd Lo Hi).take k))) ao co (his (aC ((cd Lo Hi).take k))))) (fun _ _ vi _=>n - (intOf vi).toNat)
 case atStart=>exact ⟨0,none,none,0,0,0,Nat.zero_le _,Nat.zero_le _,rfl,rfl,rfl,by simp [aC],⟨dz.nil (Below.refl _ _) (Nat.le_refl _) (Nat.le_refl _),dz.nil (Below.refl _ _) (Nat.le_refl _) (Nat.le_refl _),fun k h=>by cases h⟩⟩
 case round =>
  obtain ⟨k,ai,ao,ci,co,m,hk,hm,rfl,rfl,rfl,HI⟩:=hrel
  rename World=>w6
  by_cases ak:k < n
  ·obtain ⟨da,tz,q1⟩:=qF (HA.out.below HI.out.2.a.below) k ak;obtain ⟨db,ol,q2⟩:=qF (HB.out.below HI.out.2.a.below) k ak;subst tz ol;have HZ:=hide (zdT Lo Hi k (by rw [HA.out.1];exact ak) (by rw [HB.out.1];exact ak));obtain ⟨x,Hx⟩:∃ x,Hid (Lo.getD k 0=x):=⟨_,rfl⟩;obtain ⟨y,Hy⟩:∃ y,Hid (Hi.getD k 0=y):=⟨_,rfl⟩;rw [Hx.out] at q1 HZ;rw [Hy.out] at q2 HZ;have r1:=cell_regrown q1;have r2:=cell_regrown q2;clear q1 q2;by_cases m9:x < 1
   ·by_cases hy9:1000000000 < y
    ·have lC:Hid (aC ((cd Lo Hi).take (k+1))=aC ((cd Lo Hi).take k)++[⟨1,1000000000⟩]):=by show _=_;rw [HZ.out,qL,kZ (by omega),show max x 1=1 by omega,show min y 1000000000=1000000000 by omega]
     go_wp2_with fail;refine wp_region_quiet_below (by kernel_rfl) (by kernel_rfl) ?_
     repeat (with_reducible (refine wpQuiet_step ?_);intro K hK;go_simp;(try rw [if_neg (by unfold undef;simp)]);first | (with_reducible (refine hK _ ?_);clear hK K) | (apply Exists.intro;refine ⟨fun _=>?_,hK _ ?_⟩;(fail);clear hK K))
     with_reducible (refine wpQuiet_nil ?_)
     intro w7 hw';obtain ⟨⟨dq,osq⟩,hw''⟩:=hw'
     have bw7:Below w6.heap.size w6 w7:=by rw [hw''];exact below_regrown w6 dq osq
     clear hw'' dq osq;have fT:=hide (HI.out.2.on bw7);have iy:=hide HI.out.1
     have nA:Hid ((los (aC ((cd Lo Hi).take k))).length=m):=by show _=_;unfold los;rw [List.length_map];exact iy.out
     have o0:Hid ((his (aC ((cd Lo Hi).take k))).length=m):=by show _=_;unfold his;rw [List.length_map];exact iy.out
     clear r1 r2 bw7 HI;go_wp2_with (at_builtin;first | (refine (p7.out.on (ze w9 (.cells #[.int .i64 (1000000001)] 3))).b.append [1000000001] ⟨w9.heap.size,0,none⟩ 1 1 (eL w9 (1000000001) _ rfl 3) (by rw [o0.out];omega) rfl (.tmp 37) (.tmp 40) rfl m o0.out rfl rfl ?_;intro ao8 c8 w8 O8 h8 z8;have Al:=hide ((p7.out.on (ze w9 (.cells #[.int .i64 (1000000001)] 3))).growB O8 h8 z8);clear O8 h8 z8) | (refine (fT.out.on (ze w7 (.cells #[.int .i64 (1)] 3))).a.append [1] ⟨w7.heap.size,0,none⟩ 1 1 (eL w7 (1) _ rfl 3) (by rw [nA.out];omega) rfl (.tmp 33) (.tmp 35) rfl m nA.out rfl rfl ?_;intro ai9 c9 w9 O9 h9 z9;have p7:=hide ((fT.out.on (ze w7 (.cells #[.int .i64 (1)] 3))).growA O9 h9 z9);clear O9 h9 z9));go_roundw
     case rel =>
      refine ⟨k+1,ai9,ao8,c9,c8,m+1,by omega,by omega,rfl,rfl,by go_num,?_,?_⟩
      ·rw [lC.out,List.length_append,iy.out];rfl
      ·rw [lC.out]
       have e1:los (aC ((cd Lo Hi).take k)++[⟨1,1000000000⟩])=los (aC ((cd Lo Hi).take k))++[1]:=by simp [los]
       have e2:his (aC ((cd Lo Hi).take k)++[⟨1,1000000000⟩])=his (aC ((cd Lo Hi).take k))++[1000000001]:=by simp [his]
       rw [e1,e2];exact Al.out
     case measure=>simp [intOf];omega
    ·by_cases lM:1 <= y
     ·have lC:Hid (aC ((cd Lo Hi).take (k+1))=aC ((cd Lo Hi).take k)++[⟨1,y⟩]):=by show _=_;rw [HZ.out,qL,kZ (by omega),show max x 1=1 by omega,show min y 1000000000=y by omega]
      go_wp2_with fail;refine wp_region_quiet_below (by kernel_rfl) (by kernel_rfl) ?_
      repeat (with_reducible (refine wpQuiet_step ?_);intro K hK;go_simp;(try rw [if_neg (by unfold undef;simp)]);first | (with_reducible (refine hK _ ?_);clear hK K) | (apply Exists.intro;refine ⟨fun _=>?_,hK _ ?_⟩;(fail);clear hK K))
      with_reducible (refine wpQuiet_nil ?_)
      intro w7 hw';obtain ⟨⟨dq,osq⟩,hw''⟩:=hw'
      have bw7:Below w6.heap.size w6 w7:=by rw [hw''];exact below_regrown w6 dq osq
      clear hw'' dq osq;have fT:=hide (HI.out.2.on bw7);have iy:=hide HI.out.1
      have nA:Hid ((los (aC ((cd Lo Hi).take k))).length=m):=by show _=_;unfold los;rw [List.length_map];exact iy.out
      have o0:Hid ((his (aC ((cd Lo Hi).take k))).length=m):=by show _=_;unfold his;rw [List.length_map];exact iy.out
      clear r1 r2 bw7 HI
      have uX:IntKind.i64.wrap (y+1)=y+1:=by rw [IntKind.wrap_i64];omega
      go_wp2_with (at_builtin;first | (refine (p7.out.on (ze w9 (.cells #[.int .i64 (y+1)] 3))).b.append [y+1] ⟨w9.heap.size,0,none⟩ 1 1 (eL w9 (y+1) _ rfl 3) (by rw [o0.out];omega) rfl (.tmp 37) (.tmp 40) rfl m o0.out rfl rfl ?_;intro ao8 c8 w8 O8 h8 z8;have Al:=hide ((p7.out.on (ze w9 (.cells #[.int .i64 (y+1)] 3))).growB O8 h8 z8);clear O8 h8 z8) | (refine (fT.out.on (ze w7 (.cells #[.int .i64 (1)] 3))).a.append [1] ⟨w7.heap.size,0,none⟩ 1 1 (eL w7 (1) _ rfl 3) (by rw [nA.out];omega) rfl (.tmp 33) (.tmp 35) rfl m nA.out rfl rfl ?_;intro ai9 c9 w9 O9 h9 z9;have p7:=hide ((fT.out.on (ze w7 (.cells #[.int .i64 (1)] 3))).growA O9 h9 z9);clear O9 h9 z9));go_roundw
      case rel =>
       refine ⟨k+1,ai9,ao8,c9,c8,m+1,by omega,by omega,rfl,rfl,by go_num,?_,?_⟩
       ·rw [lC.out,List.length_append,iy.out];rfl
       ·rw [lC.out]
        have e1:los (aC ((cd Lo Hi).take k)++[⟨1,y⟩])=los (aC ((cd Lo Hi).take k))++[1]:=by simp [los]
        have e2:his (aC ((cd Lo Hi).take k)++[⟨1,y⟩])=his (aC ((cd Lo Hi).take k))++[y+1]:=by simp [his]
        rw [e1,e2];exact Al.out
      case measure=>simp [intOf];omega
     ·have lC:Hid (aC ((cd Lo Hi).take (k+1))=aC ((cd Lo Hi).take k)):=by show _=_;rw [HZ.out,qL,zaw (by omega),List.append_nil]
      go_wp2_with fail;refine wp_region_quiet_below (by kernel_rfl) (by kernel_rfl) ?_
      repeat (with_reducible (refine wpQuiet_step ?_);intro K hK;go_simp;(try rw [if_neg (by unfold undef;simp)]);first | (with_reducible (refine hK _ ?_);clear hK K) | (apply Exists.intro;refine ⟨fun _=>?_,hK _ ?_⟩;(fail);clear hK K))
      with_reducible (refine wpQuiet_nil ?_)
      intro w7 hw';obtain ⟨⟨dq,osq⟩,hw''⟩:=hw'
      have bw7:Below w6.heap.size w6 w7:=by rw [hw''];exact below_regrown w6 dq osq
      clear hw'' dq osq;have fT:=hide (HI.out.2.on bw7);have iy:=hide HI.out.1;clear r1 r2 bw7 HI;go_wp2_with fail;go_roundw
      case rel=>exact ⟨k+1,ai,ao,ci,co,m,by omega,by omega,rfl,rfl,by go_num,by rw [lC.out];exact iy.out,by rw [lC.out];exact fT.out⟩
      case measure=>simp [intOf];omega
   ·by_cases hy9:1000000000 < y
    ·by_cases lM:x <= 1000000000
     ·have lC:Hid (aC ((cd Lo Hi).take (k+1))=aC ((cd Lo Hi).take k)++[⟨x,1000000000⟩]):=by show _=_;rw [HZ.out,qL,kZ (by omega),show max x 1=x by omega,show min y 1000000000=1000000000 by omega]
      go_wp2_with fail;refine wp_region_quiet_below (by kernel_rfl) (by kernel_rfl) ?_
      repeat (with_reducible (refine wpQuiet_step ?_);intro K hK;go_simp;(try rw [if_neg (by unfold undef;simp)]);first | (with_reducible (refine hK _ ?_);clear hK K) | (apply Exists.intro;refine ⟨fun _=>?_,hK _ ?_⟩;(fail);clear hK K))
      with_reducible (refine wpQuiet_nil ?_)
      intro w7 hw';obtain ⟨⟨dq,osq⟩,hw''⟩:=hw'
      have bw7:Below w6.heap.size w6 w7:=by rw [hw''];exact below_regrown w6 dq osq
      clear hw'' dq osq;have fT:=hide (HI.out.2.on bw7);have iy:=hide HI.out.1
      have nA:Hid ((los (aC ((cd Lo Hi).take k))).length=m):=by show _=_;unfold los;rw [List.length_map];exact iy.out
      have o0:Hid ((his (aC ((cd Lo Hi).take k))).length=m):=by show _=_;unfold his;rw [List.length_map];exact iy.out
      clear r1 r2 bw7 HI;go_wp2_with (at_builtin;first | (refine (p7.out.on (ze w9 (.cells #[.int .i64 (1000000001)] 3))).b.append [1000000001] ⟨w9.heap.size,0,none⟩ 1 1 (eL w9 (1000000001) _ rfl 3) (by rw [o0.out];omega) rfl (.tmp 37) (.tmp 40) rfl m o0.out rfl rfl ?_;intro ao8 c8 w8 O8 h8 z8;have Al:=hide ((p7.out.on (ze w9 (.cells #[.int .i64 (1000000001)] 3))).growB O8 h8 z8);clear O8 h8 z8) | (refine (fT.out.on (ze w7 (.cells #[.int .i64 (x)] 3))).a.append [x] ⟨w7.heap.size,0,none⟩ 1 1 (eL w7 (x) _ rfl 3) (by rw [nA.out];omega) rfl (.tmp 33) (.tmp 35) rfl m nA.out rfl rfl ?_;intro ai9 c9 w9 O9 h9 z9;have p7:=hide ((fT.out.on (ze w7 (.cells #[.int .i64 (x)] 3))).growA O9 h9 z9);clear O9 h9 z9));go_roundw
      case rel =>
       refine ⟨k+1,ai9,ao8,c9,c8,m+1,by omega,by omega,rfl,rfl,by go_num,?_,?_⟩
       ·rw [lC.out,List.length_append,iy.out];rfl
       ·rw [lC.out]
        have e1:los (aC ((cd Lo Hi).take k)++[⟨x,1000000000⟩])=los (aC ((cd Lo Hi).take k))++[x]:=by simp [los]
        have e2:his (aC ((cd Lo Hi).take k)++[⟨x,1000000000⟩])=his (aC ((cd Lo Hi).take k))++[1000000001]:=by simp [his]
        rw [e1,e2];exact Al.out
      case measure=>simp [intOf];omega
     ·have lC:Hid (aC ((cd Lo Hi).take (k+1))=aC ((cd Lo Hi).take k)):=by show _=_;rw [HZ.out,qL,zaw (by omega),List.append_nil]
      go_wp2_with fail;refine wp_region_quiet_below (by kernel_rfl) (by kernel_rfl) ?_
      repeat (with_reducible (refine wpQuiet_step ?_);intro K hK;go_simp;(try rw [if_neg (by unfold undef;simp)]);first | (with_reducible (refine hK _ ?_);clear hK K) | (apply Exists.intro;refine ⟨fun _=>?_,hK _ ?_⟩;(fail);clear hK K))
      with_reducible (refine wpQuiet_nil ?_)
      intro w7 hw';obtain ⟨⟨dq,osq⟩,hw''⟩:=hw'
      have bw7:Below w6.heap.size w6 w7:=by rw [hw''];exact below_regrown w6 dq osq
      clear hw'' dq osq;have fT:=hide (HI.out.2.on bw7);have iy:=hide HI.out.1;clear r1 r2 bw7 HI;go_wp2_with fail;go_roundw
      case rel=>exact ⟨k+1,ai,ao,ci,co,m,by omega,by omega,rfl,rfl,by go_num,by rw [lC.out];exact iy.out,by rw [lC.out];exact fT.out⟩
      case measure=>simp [intOf];omega
    ·by_cases lM:x <= y
     ·have lC:Hid (aC ((cd Lo Hi).take (k+1))=aC ((cd Lo Hi).take k)++[⟨x,y⟩]):=by show _=_;rw [HZ.out,qL,kZ (by omega),show max x 1=x by omega,show min y 1000000000=y by omega]
      go_wp2_with fail;refine wp_region_quiet_below (by kernel_rfl) (by kernel_rfl) ?_
      repeat (with_reducible (refine wpQuiet_step ?_);intro K hK;go_simp;(try rw [if_neg (by unfold undef;simp)]);first | (with_reducible (refine hK _ ?_);clear hK K) | (apply Exists.intro;refine ⟨fun _=>?_,hK _ ?_⟩;(fail);clear hK K))
      with_reducible (refine wpQuiet_nil ?_)
      intro w7 hw';obtain ⟨⟨dq,osq⟩,hw''⟩:=hw'
      have bw7:Below w6.heap.size w6 w7:=by rw [hw''];exact below_regrown w6 dq osq
      clear hw'' dq osq;have fT:=hide (HI.out.2.on bw7);have iy:=hide HI.out.1
      have nA:Hid ((los (aC ((cd Lo Hi).take k))).length=m):=by show _=_;unfold los;rw [List.length_map];exact iy.out
      have o0:Hid ((his (aC ((cd Lo Hi).take k))).length=m):=by show _=_;unfold his;rw [List.length_map];exact iy.out
      clear r1 r2 bw7 HI
      have uX:IntKind.i64.wrap (y+1)=y+1:=by rw [IntKind.wrap_i64];omega
      go_wp2_with (at_builtin;first | (refine (p7.out.on (ze w9 (.cells #[.int .i64 (y+1)] 3))).b.append [y+1] ⟨w9.heap.size,0,none⟩ 1 1 (eL w9 (y+1) _ rfl 3) (by rw [o0.out];omega) rfl (.tmp 37) (.tmp 40) rfl m o0.out rfl rfl ?_;intro ao8 c8 w8 O8 h8 z8;have Al:=hide ((p7.out.on (ze w9 (.cells #[.int .i64 (y+1)] 3))).growB O8 h8 z8);clear O8 h8 z8) | (refine (fT.out.on (ze w7 (.cells #[.int .i64 (x)] 3))).a.append [x] ⟨w7.heap.size,0,none⟩ 1 1 (eL w7 (x) _ rfl 3) (by rw [nA.out];omega) rfl (.tmp 33) (.tmp 35) rfl m nA.out rfl rfl ?_;intro ai9 c9 w9 O9 h9 z9;have p7:=hide ((fT.out.on (ze w7 (.cells #[.int .i64 (x)] 3))).growA O9 h9 z9);clear O9 h9 z9));go_roundw
      case rel =>
       refine ⟨k+1,ai9,ao8,c9,c8,m+1,by omega,by omega,rfl,rfl,by go_num,?_,?_⟩
       ·rw [lC.out,List.length_append,iy.out];rfl
       ·rw [lC.out]
        have e1:los (aC ((cd Lo Hi).take k)++[⟨x,y⟩])=los (aC ((cd Lo Hi).take k))++[x]:=by simp [los]
        have e2:his (aC ((cd Lo Hi).take k)++[⟨x,y⟩])=his (aC ((cd Lo Hi).take k))++[y+1]:=by simp [his]
        rw [e1,e2];exact Al.out
      case measure=>simp [intOf];omega
     ·have lC:Hid (aC ((cd Lo Hi).take (k+1))=aC ((cd Lo Hi).take k)):=by show _=_;rw [HZ.out,qL,zaw (by omega),List.append_nil]
      go_wp2_with fail;refine wp_region_quiet_below (by kernel_rfl) (by kernel_rfl) ?_
      repeat (with_reducible (refine wpQuiet_step ?_);intro K hK;go_simp;(try rw [if_neg (by unfold undef;simp)]);first | (with_reducible (refine hK _ ?_);clear hK K) | (apply Exists.intro;refine ⟨fun _=>?_,hK _ ?_⟩;(fail);clear hK K))
      with_reducible (refine wpQuiet_nil ?_)
      intro w7 hw';obtain ⟨⟨dq,osq⟩,hw''⟩:=hw'
      have bw7:Below w6.heap.size w6 w7:=by rw [hw''];exact below_regrown w6 dq osq
      clear hw'' dq osq;have fT:=hide (HI.out.2.on bw7);have iy:=hide HI.out.1;clear r1 r2 bw7 HI;go_wp2_with fail;go_roundw
      case rel=>exact ⟨k+1,ai,ao,ci,co,m,by omega,by omega,rfl,rfl,by go_num,by rw [lC.out];exact iy.out,by rw [lC.out];exact fT.out⟩
      case measure=>simp [intOf];omega
  ·obtain rfl:k=n:=by omega
   have u4:(cd Lo Hi).take k=cd Lo Hi:=List.take_of_length_le (by rw [Mk.out];exact Nat.le_refl _);rw [u4] at HI;have iy:=hide HI.out.1
   have nA:Hid ((los (aC (cd Lo Hi))).length=m):=by show _=_;unfold los;rw [List.length_map];exact iy.out
   have o0:Hid ((his (aC (cd Lo Hi))).length=m):=by show _=_;unfold his;rw [List.length_map];exact iy.out
   obtain ⟨s1,_,g1,m1⟩:=HI.out.2.a.src;obtain ⟨s2,_,g2,m2⟩:=HI.out.2.b.src;rw [nA.out] at s1 g1;rw [o0.out] at s2 g2;have dm:=hide s1;have dX:=hide s2;have AU:=hide (And.intro g1 m1);have CZ:=hide (And.intro g2 m2);have fQ:=hide HI.out.2.a.below;clear s1 s2 g1 g2 m1 m2 HI u4 iy;go_wp2_with fail;refine (yK m ai ci _ _ dm.out AU.out.1 AU.out.2 (by omega)).mono ?_;rintro e w1 ⟨a1,c1,I,rfl,S1,_,_,_,b1,p1,t1⟩;have Hw:=hide (And.intro p1 t1);have FG:=hide S1;have aN:=wTr fQ b1;replace dX:=hide (dX.out.below b1);clear S1 b1 p1 t1 dm AU;go_wp2_with fail;refine (yK m ao co _ _ dX.out CZ.out.1 CZ.out.2 (by omega)).mono ?_;rintro e w2 ⟨a2,c2,O,rfl,S2,_,_,_,b2,p2,t2⟩;have ur:=hide (And.intro p2 t2);have Ik:=hide S2;replace FG:=hide (FG.out.below b2);have cg:=wTr aN b2;clear S2 b2 p2 t2 dX CZ aN fQ
   have sH:=hide (ziM (B:=aC (cd Lo Hi)) (fun r hr=>ws _ r hr) Hw.out.1 ur.out.1 Hw.out.2 ur.out.2);have Bg:Hid (I.length=m):=FG.out.1;have uF:Hid (O.length=m):=Ik.out.1;go_wp2_with fail;go_loopw [10,11,12,13] (fun v dv vj vi wr=>∃ (i j:Nat) (ao:Option Addr) (cap l:Nat) (acc:List Int) (R:List Rn) (s:Option Int) (dp:Int),i <= m/\j <= m/\v = .slice ao l cap/\dv = .int .i64 dp/\vj = .int .i64 j/\vi = .int .i64 i/\dp=(i:Int) - (j:Int)/\Hid (acc.length=l/\SwV w2 wr I O i j ao cap acc R s)) (fun _ _ vj vi _=>2 * m - ((intOf vi).toNat+(intOf vj).toNat))
   case atStart=>exact ⟨0,0,none,0,0,[],[],none,0,Nat.zero_le _,Nat.zero_le _,rfl,rfl,rfl,rfl,by omega,rfl,dz.nil (Below.refl _ _) (Nat.le_refl _) (Nat.le_refl _),Sw.start I O,rfl⟩
   case round =>
    obtain ⟨i,j,ao,cap,l,acc,R,s,dp,hi,hj,rfl,rfl,rfl,rfl,Kl,HI⟩:=hrel
    rename World=>v6
    have pt:=HI.out.2.2.1.ij;have pi:=hide Kl
    have ol : -1 < dp/\dp < 8796093022209:=by omega
    clear Kl;have uE:=hide HI.out.2.len;by_cases him:i < m
    ·have uH:j < m:=by omega
     obtain ⟨da,tz,q1⟩:=qF (FG.out.below HI.out.2.1.below) i him;obtain ⟨db,ol,q2⟩:=qF (Ik.out.below HI.out.2.1.below) j uH;subst tz ol;have HX:Hid (I[i]? = some (I.getD i 0)):=getD_some I i (by rw [Bg.out];exact him);have HY:Hid (O[j]? = some (O.getD j 0)):=getD_some O j (by rw [uF.out];exact uH);obtain ⟨x,Hx⟩:∃ x,Hid (I.getD i 0=x):=⟨_,rfl⟩;obtain ⟨y,Hy⟩:∃ y,Hid (O.getD j 0=y):=⟨_,rfl⟩;rw [Hx.out] at q1 HX;rw [Hy.out] at q2 HY;have r1:=cell_regrown q1;have r2:=cell_regrown q2;by_cases lM:x <= y
     ·have HN:=hide (HI.out.2.2.1.inn sH.out HX.out (fun z hz=>by rw [HY.out] at hz;obtain rfl:=Option.some.inj hz;exact lM))
      cases s with
      | none =>
       have E5:dp=0:=by have:=HI.out.2.2.1.st.1 rfl;have:=pi.out;omega
       subst E5;rw [Option.getD_none] at HN
       have HE:Hid (acc=tn R):=by have:=HI.out.2.2.2;show _=_;simpa using this
       have gl:=hide HI.out.1;go_wp2_with fail;refine wp_region_quiet_below (by kernel_rfl) (by kernel_rfl) ?_
       repeat (with_reducible (refine wpQuiet_step ?_);intro K hK;go_simp;(try rw [if_neg (by unfold undef;simp)]);first | (with_reducible (refine hK _ ?_);clear hK K) | (apply Exists.intro;refine ⟨fun _=>?_,hK _ ?_⟩;(fail);clear hK K))
       with_reducible (refine wpQuiet_nil ?_)
       intro v7 hw';obtain ⟨⟨dq,osq⟩,hw''⟩:=hw'
       have bv7:Below v6.heap.size v6 v7:=by rw [hw''];exact below_regrown v6 dq osq
       clear hw'' dq osq;have fI:=hide (HI.out.2.1.later bv7);have q7:=(bv7.cell (World.block_lt_of_cell? _ _ q1)).trans q1;clear r1 r2 bv7 HI q1 q2;go_wp2_with (at_builtin;refine (fI.out.later (ze v7 _)).append [x] ⟨v7.heap.size,0,none⟩ 1 1 (eL v7 x _ rfl 3) (by have:=uE.out;omega) rfl (.tmp 73) (.tmp 78) rfl l gl.out rfl rfl ?_;intro ao8 c8 v8 O8 _ _;have fD:=hide O8;clear O8);go_roundw
       case rel=>exact ⟨i+1,j,ao8,c8,l+1,acc++[x],R,some x,1,by omega,by omega,rfl,rfl,rfl,by go_num,by have:=pi.out;omega,by rw [List.length_append,gl.out];rfl,fD.out,HN.out,by rw [HE.out];rfl⟩
       case measure=>simp [intOf];omega
      | some a =>
       have E5:(dp == 0)=false:=by
        have h:¬ i=j:=fun e=>by have:=HI.out.2.2.1.st.2 e;cases this
        have:=pi.out;simp;omega
       rw [Option.getD_some] at HN;have HE:=hide HI.out.2.2.2;have gl:=hide HI.out.1
       have uX:IntKind.i64.wrap (dp+1)=dp+1:=by rw [IntKind.wrap_i64];omega
       go_wp2_with fail;refine wp_region_quiet_below (by kernel_rfl) (by kernel_rfl) ?_
       repeat (with_reducible (refine wpQuiet_step ?_);intro K hK;go_simp;(try rw [if_neg (by unfold undef;simp)]);first | (with_reducible (refine hK _ ?_);clear hK K) | (apply Exists.intro;refine ⟨fun _=>?_,hK _ ?_⟩;(fail);clear hK K))
       with_reducible (refine wpQuiet_nil ?_)
       intro v7 hw';obtain ⟨⟨dq,osq⟩,hw''⟩:=hw'
       have bv7:Below v6.heap.size v6 v7:=by rw [hw''];exact below_regrown v6 dq osq
       clear hw'' dq osq;have fI:=hide (HI.out.2.1.later bv7);clear r1 r2 bv7 HI q1 q2;go_wp2_with fail;go_roundw
       case rel=>exact ⟨i+1,j,ao,cap,l,acc,R,some a,dp+1,by omega,by omega,rfl,by go_num,rfl,by go_num,by have:=pi.out;omega,gl.out,fI.out,HN.out,HE.out⟩
       case measure=>simp [intOf];omega
     ·have tA:=decide_eq_false lM
      have fj:Hid (∀ z,I[i]? = some z -> y < z):=fun z hz=>by rw [HX.out] at hz;obtain rfl:=Option.some.inj hz;omega
      have Il:=hide (HI.out.2.2.1.deep sH.out HY.out fj.out);have GH:=Il.out.1
      cases s with
      | none=>have:=HI.out.2.2.1.st.1 rfl;omega
      | some a =>
       have Dt:=hide (HI.out.2.2.1.out sH.out HY.out fj.out);have gl:=hide HI.out.1;have HE:=hide HI.out.2.2.2
       have uX:IntKind.i64.wrap (dp - 1)=dp - 1:=by rw [IntKind.wrap_i64];omega
       by_cases fC:i=j+1
       ·have HN:=hide (Dt.out.2 fC).2
        have FT:dp=1:=by have:=pi.out;omega
        subst FT;clear fC;go_wp2_with fail;refine wp_region_quiet_below (by kernel_rfl) (by kernel_rfl) ?_
        repeat (with_reducible (refine wpQuiet_step ?_);intro K hK;go_simp;(try rw [if_neg (by unfold undef;simp)]);first | (with_reducible (refine hK _ ?_);clear hK K) | (apply Exists.intro;refine ⟨fun _=>?_,hK _ ?_⟩;(fail);clear hK K))
        with_reducible (refine wpQuiet_nil ?_)
        intro v7 hw';obtain ⟨⟨dq,osq⟩,hw''⟩:=hw'
        have bv7:Below v6.heap.size v6 v7:=by rw [hw''];exact below_regrown v6 dq osq
        clear hw'' dq osq;have fI:=hide (HI.out.2.1.later bv7);have q7:=(bv7.cell (World.block_lt_of_cell? _ _ q2)).trans q2;clear bv7 HI q2 q1 r1 r2 tA;go_wp2_with (at_builtin;refine (fI.out.later (ze v7 _)).append [y] ⟨v7.heap.size,0,none⟩ 1 1 (eL v7 y _ rfl 3) (by have:=uE.out;omega) rfl (.tmp 88) (.tmp 93) rfl l gl.out rfl rfl ?_;intro ao8 c8 v8 O8 _ _;have fD:=hide O8;clear O8);go_roundw
        case rel=>exact ⟨i,j+1,ao8,c8,l+1,acc++[y],R++[⟨a,y - 1⟩],none,0,by omega,by omega,rfl,rfl,by go_num,rfl,by have:=pi.out;omega,by rw [List.length_append,gl.out];rfl,fD.out,HN.out,by rw [HE.out];simp only [Option.toList_some,Option.toList_none,List.append_nil];exact zcp R a y⟩
        case measure=>simp [intOf];omega
       ·have tg:(dp - 1 == 0)=false:=by have:=pi.out;simp;omega
        have HN:=hide (Dt.out.1 fC);go_wp2_with fail;refine wp_region_quiet_below (by kernel_rfl) (by kernel_rfl) ?_
        repeat (with_reducible (refine wpQuiet_step ?_);intro K hK;go_simp;(try rw [if_neg (by unfold undef;simp)]);first | (with_reducible (refine hK _ ?_);clear hK K) | (apply Exists.intro;refine ⟨fun _=>?_,hK _ ?_⟩;(fail);clear hK K))
        with_reducible (refine wpQuiet_nil ?_)
        intro v7 hw';obtain ⟨⟨dq,osq⟩,hw''⟩:=hw'
        have bv7:Below v6.heap.size v6 v7:=by rw [hw''];exact below_regrown v6 dq osq
        clear hw'' dq osq;have fI:=hide (HI.out.2.1.later bv7);clear bv7 HI q2 q1 r1 r2 tA;go_wp2_with fail;go_roundw
        case rel=>exact ⟨i,j+1,ao,cap,l,acc,R,some a,dp - 1,by omega,by omega,rfl,by go_num,by go_num,rfl,by have:=pi.out;omega,gl.out,fI.out,HN.out,HE.out⟩
        case measure=>simp [intOf];omega
    ·by_cases uH:j < m
     ·obtain ⟨db,ol,q2⟩:=qF (Ik.out.below HI.out.2.1.below) j uH;subst ol;have HY:Hid (O[j]? = some (O.getD j 0)):=getD_some O j (by rw [uF.out];exact uH);obtain ⟨y,Hy⟩:∃ y,Hid (O.getD j 0=y):=⟨_,rfl⟩;rw [Hy.out] at q2 HY;have r2:=cell_regrown q2
      have IU:¬ (i:Int) < (m:Int):=by omega
      have fj:Hid (∀ z,I[i]? = some z -> y < z):=fun z hz=>by
       have:=(List.getElem?_eq_some_iff.1 hz).1;rw [Bg.out] at this;omega
      have Il:=hide (HI.out.2.2.1.deep sH.out HY.out fj.out);have GH:=Il.out.1
      cases s with
      | none=>have:=HI.out.2.2.1.st.1 rfl;omega
      | some a =>
       have Dt:=hide (HI.out.2.2.1.out sH.out HY.out fj.out);have gl:=hide HI.out.1;have HE:=hide HI.out.2.2.2
       have uX:IntKind.i64.wrap (dp - 1)=dp - 1:=by rw [IntKind.wrap_i64];omega
       by_cases fC:i=j+1
       ·have HN:=hide (Dt.out.2 fC).2
        have FT:dp=1:=by have:=pi.out;omega
        subst FT;clear fC;go_wp2_with fail;refine wp_region_quiet_below (by kernel_rfl) (by kernel_rfl) ?_
        repeat (with_reducible (refine wpQuiet_step ?_);intro K hK;go_simp;(try rw [if_neg (by unfold undef;simp)]);first | (with_reducible (refine hK _ ?_);clear hK K) | (apply Exists.intro;refine ⟨fun _=>?_,hK _ ?_⟩;(fail);clear hK K))
        with_reducible (refine wpQuiet_nil ?_)
        intro v7 hw';obtain ⟨⟨dq,osq⟩,hw''⟩:=hw'
        have bv7:Below v6.heap.size v6 v7:=by rw [hw''];exact below_regrown v6 dq osq
        clear hw'' dq osq;have fI:=hide (HI.out.2.1.later bv7);have q7:=(bv7.cell (World.block_lt_of_cell? _ _ q2)).trans q2;clear bv7 HI q2 r2;go_wp2_with (at_builtin;refine (fI.out.later (ze v7 _)).append [y] ⟨v7.heap.size,0,none⟩ 1 1 (eL v7 y _ rfl 3) (by have:=uE.out;omega) rfl (.tmp 88) (.tmp 93) rfl l gl.out rfl rfl ?_;intro ao8 c8 v8 O8 _ _;have fD:=hide O8;clear O8);go_roundw
        case rel=>exact ⟨i,j+1,ao8,c8,l+1,acc++[y],R++[⟨a,y - 1⟩],none,0,by omega,by omega,rfl,rfl,by go_num,rfl,by have:=pi.out;omega,by rw [List.length_append,gl.out];rfl,fD.out,HN.out,by rw [HE.out];simp only [Option.toList_some,Option.toList_none,List.append_nil];exact zcp R a y⟩
        case measure=>simp [intOf];omega
       ·have tg:(dp - 1 == 0)=false:=by have:=pi.out;simp;omega
        have HN:=hide (Dt.out.1 fC);go_wp2_with fail;refine wp_region_quiet_below (by kernel_rfl) (by kernel_rfl) ?_
        repeat (with_reducible (refine wpQuiet_step ?_);intro K hK;go_simp;(try rw [if_neg (by unfold undef;simp)]);first | (with_reducible (refine hK _ ?_);clear hK K) | (apply Exists.intro;refine ⟨fun _=>?_,hK _ ?_⟩;(fail);clear hK K))
        with_reducible (refine wpQuiet_nil ?_)
        intro v7 hw';obtain ⟨⟨dq,osq⟩,hw''⟩:=hw'
        have bv7:Below v6.heap.size v6 v7:=by rw [hw''];exact below_regrown v6 dq osq
        clear hw'' dq osq;have fI:=hide (HI.out.2.1.later bv7);clear bv7 HI q2 r2;go_wp2_with fail;go_roundw
        case rel=>exact ⟨i,j+1,ao,cap,l,acc,R,some a,dp - 1,by omega,by omega,rfl,by go_num,by go_num,rfl,by have:=pi.out;omega,gl.out,fI.out,HN.out,HE.out⟩
        case measure=>simp [intOf];omega
     ·obtain rfl:i=m:=by omega
      obtain rfl:j=i:=by omega
      have IU:¬ (j:Int) < (j:Int):=by omega
      obtain ⟨hs,hN⟩:=HI.out.2.2.1.done Hw.out.1 ur.out.1 Bg.out uF.out;subst hs;obtain ⟨S3,f3,_,_⟩:=HI.out.2.1.src;have e3:=HI.out.1;have e4:=HI.out.2.2.2;rw [e3] at S3;simp only [Option.toList_none,List.append_nil] at e4;rw [e4] at S3;have HG:Hid (oa w v6 (.returned (.slice ao l cap)) (cd Lo Hi)):=⟨ao,l,cap,R,rfl,S3,fun ad h=>Nat.le_trans cg.out.size (f3 ad h),cg.out.trans (HI.out.2.1.below.mono cg.out.size),hN⟩;clear S3 f3 e3 e4 hN HI;go_wp2_with fail;go_ret;exact HG.out
end Go.Proofs.YtjffpimfngdggaaGreat
