/- QTu -/
import Derived.Test.YtjffpimfngdggaaGreatTk
import Derived.Test.YtjffpimfngdggaaGreatFs01
set_option maxRecDepth 100000
set_option maxHeartbeats 4000000
namespace Go.Proofs.YtjffpimfngdggaaGreat
open Go.RowKit

theorem OwnI.keep {B0 B:Nat} {w w' w2:World} {ao xo:Option Addr} {cap xc:Nat} {acc X:List Int} (O:OwnI B0 B w w' xo xc X) (hb:Below B0 w w2) (hsz:w'.heap.size <= w2.heap.size)
  (h:∀ k,k < w'.heap.size -> (Value.slice ao acc.length cap).ownBlock≠some k -> w2.heap[k]? = w'.heap[k]?) (hne:∀ k,(Value.slice xo X.length xc).ownBlock=some k -> (Value.slice ao acc.length cap).ownBlock≠some k):OwnI B0 B w w2 xo xc X:=by
 refine ⟨⟨O.own.1,?_⟩,hb,Nat.le_trans O.hB hsz,O.hB0⟩;rcases O.own.2 with h0 | ⟨g,cap2,cur,hv,hbg,hgg,r⟩
 ·exact Or.inl h0
 ·refine Or.inr ⟨g,cap2,cur,hv,hbg,(h g (Array.getElem?_eq_some_iff.1 hgg).1 (hne g ?_)).trans hgg,r⟩;rw [hv];rfl
structure Two2 (w W:World) (ai:Option Addr) (ci:Nat) (I:List Int) (ao:Option Addr) (co:Nat) (O:List Int):Prop where
 a:OwnI w.heap.size w.heap.size w W ai ci I
 b:OwnI w.heap.size w.heap.size w W ao co O
 d:∀ k,(Value.slice ai I.length ci).ownBlock=some k -> (Value.slice ao O.length co).ownBlock≠some k
theorem Two2.on {w W W':World} {ai ao:Option Addr} {ci co:Nat} {I O:List Int} (T:Two2 w W ai ci I ao co O) (hb:Below W.heap.size W W'):Two2 w W' ai ci I ao co O:=⟨T.a.later hb,T.b.later hb,T.d⟩
theorem zhA {ao:Option Addr} {n c k:Nat} (h:(Value.slice ao n c).ownBlock=some k):∃ ad,ao=some ad/\ad.block=k:=by
 cases ao with
 | none=>cases h
 | some ad=>exact ⟨ad,rfl,Option.some.inj h⟩
theorem Two2.growA {w W W2:World} {ai ao ai2:Option Addr} {ci co ci2:Nat} {I O I2:List Int} (T:Two2 w W ai ci I ao co O) (N:OwnI w.heap.size w.heap.size w W2 ai2 ci2 I2) (h:∀ k,k < W.heap.size -> (Value.slice ai I.length ci).ownBlock≠some k -> W2.heap[k]? = W.heap[k]? /\ ∀ ad2,ai2=some ad2 -> ad2.block≠k) (hsz:W.heap.size <= W2.heap.size):Two2 w W2 ai2 ci2 I2 ao co O:=by
 refine ⟨N,T.b.keep N.below hsz (fun k h1 h2=>(h k h1 h2).1) (fun k hk e=>T.d k e hk),fun k hk e=>?_⟩;obtain ⟨ad2,e2,e3⟩:=zhA hk;have hlt:=(T.b.lt e).2;exact (h k hlt (fun e4=>T.d k e4 e)).2 ad2 e2 e3
theorem Two2.growB {w W W2:World} {ai ao ao2:Option Addr} {ci co co2:Nat} {I O O2:List Int} (T:Two2 w W ai ci I ao co O) (N:OwnI w.heap.size w.heap.size w W2 ao2 co2 O2) (h:∀ k,k < W.heap.size -> (Value.slice ao O.length co).ownBlock≠some k -> W2.heap[k]? = W.heap[k]? /\ ∀ ad2,ao2=some ad2 -> ad2.block≠k) (hsz:W.heap.size <= W2.heap.size):Two2 w W2 ai ci I ao2 co2 O2:=by
 refine ⟨T.a.keep N.below hsz (fun k h1 h2=>(h k h1 h2).1) (fun k hk e=>T.d k hk e),N,fun k hk e=>?_⟩;obtain ⟨ad2,e2,e3⟩:=zhA e;have hlt:=(T.a.lt hk).2;exact (h k hlt (fun e4=>T.d k hk e4)).2 ad2 e2 e3
def zipR (Lo Hi:List Int):List Rn:=List.zipWith (fun a b=>⟨a,b⟩) Lo Hi
theorem zd2 (Lo Hi:List Int) (k:Nat) (h1:k < Lo.length) (h2:k < Hi.length):(zipR Lo Hi).take (k+1)=(zipR Lo Hi).take k++[⟨Lo.getD k 0,Hi.getD k 0⟩]:=by
 have hl:k < (zipR Lo Hi).length:=by unfold zipR;rw [List.length_zipWith];omega
 rw [List.take_succ_eq_append_getElem hl];simp [zipR,List.getD,h1,h2]
theorem qL (a b:List Rn):clips (a++b)=clips a++clips b:=by simp [clips]
theorem vm {x y:Int} (h:max x 1 <= min y 1000000000):clips [⟨x,y⟩]=[⟨max x 1,min y 1000000000⟩]:=by simp [clips,clip,h]
theorem zaA {x y:Int} (h:¬ max x 1 <= min y 1000000000):clips [⟨x,y⟩]=[]:=by simp [clips,clip,h]
def los (B:List Rn):List Int:=B.map (fun r=>r.lo)
def his (B:List Rn):List Int:=B.map (fun r=>r.hi+1)
def GivesT (w w':World) (e:Ending) (A:List Rn):Prop:=∃ ao n c X,e = .returned (.slice ao n c)/\V.Src w' ao n c (tn X)/\(∀ ad,ao=some ad -> w.heap.size <= ad.block)/\Below w.heap.size w w'/\NormOf A X
def SwV (w W:World) (I O:List Int) (i j:Nat) (ao:Option Addr) (cap:Nat) (acc:List Int) (R:List Rn) (s:Option Int):Prop:=OwnI w.heap.size w.heap.size w W ao cap acc/\Sw I O i j R s/\acc=tn R++s.toList
theorem SwV.len {w W:World} {I O:List Int} {i j:Nat} {ao:Option Addr} {cap:Nat} {acc:List Int} {R:List Rn} {s:Option Int} (h:SwV w W I O i j ao cap acc R s):acc.length <= 1000000003:=by
 have:=qS (Int.le_refl _) h.2.1.fm;rw [h.2.2,List.length_append,jq]
 cases s <;> simp <;> omega
theorem zcx (R:List Rn) (a y:Int):tn R++[a]++[y]=tn (R++[⟨a,y - 1⟩]):=by rw [zhV,List.append_assoc];simp
theorem zd7 (la lb:Option Addr) (n ca cb:Nat) (Lo Hi:List Int) (w:World) (hA:V.Src w la n ca Lo) (hB:V.Src w lb n cb Hi) (hn:n <= 8796093022207) :
  Calls Tryz.prog 185 #[.slice la n ca,.slice lb n cb] w fun e w'=>GivesT w w' e (zipR Lo Hi):=by
 have HA:=hide hA;have HB:=hide hB
 have HZL:Hid ((zipR Lo Hi).length=n):=by show _=_;unfold zipR;rw [List.length_zipWith,hA.1,hB.1];omega
 clear hA hB;go_enter Tryz.func185,Tryz.ntmps185;go_wp2_with fail;go_loopw [5,6,7] (fun v u vi wr=>∃ (k:Nat) (ai ao:Option Addr) (ci co m:Nat),k <= n/\m <= k/\v = .slice ai m ci/\u = .slice ao m co/\vi = .int .i64 k/\Hid ((clips ((zipR Lo Hi).take k)).length=m/\Two2 w wr ai ci (los (clips ((zipR Lo Hi).take k))) ao co (his (clips ((zipR Lo Hi).take k))))) (fun _ _ vi _=>n - (intOf vi).toNat)
 case atStart=>exact ⟨0,none,none,0,0,0,Nat.zero_le _,Nat.zero_le _,rfl,rfl,rfl,by simp [clips],⟨OwnI.nil (Below.refl _ _) (Nat.le_refl _) (Nat.le_refl _),OwnI.nil (Below.refl _ _) (Nat.le_refl _) (Nat.le_refl _),fun k h=>by cases h⟩⟩
 case round =>
  obtain ⟨k,ai,ao,ci,co,m,hk,hm,rfl,rfl,rfl,HI⟩:=hrel
  rename World=>w6
  by_cases hlt:k < n
  ·obtain ⟨da,hda,q1⟩:=qw (HA.out.below HI.out.2.a.below) k hlt;obtain ⟨db,hdb,q2⟩:=qw (HB.out.below HI.out.2.a.below) k hlt;subst hda hdb;have HZ:=hide (zd2 Lo Hi k (by rw [HA.out.1];exact hlt) (by rw [HB.out.1];exact hlt));obtain ⟨x,Hx⟩:∃ x,Hid (Lo.getD k 0=x):=⟨_,rfl⟩;obtain ⟨y,Hy⟩:∃ y,Hid (Hi.getD k 0=y):=⟨_,rfl⟩;rw [Hx.out] at q1 HZ;rw [Hy.out] at q2 HZ;have r1:=cell_regrown q1;have r2:=cell_regrown q2;clear q1 q2;by_cases hx1:x < 1
   ·by_cases hy9:1000000000 < y
    ·have HCL:Hid (clips ((zipR Lo Hi).take (k+1))=clips ((zipR Lo Hi).take k)++[⟨1,1000000000⟩]):=by show _=_;rw [HZ.out,qL,vm (by omega),show max x 1=1 by omega,show min y 1000000000=1000000000 by omega]
     go_wp2_with fail;refine wp_region_quiet_below (by kernel_rfl) (by kernel_rfl) ?_
     repeat (with_reducible (refine wpQuiet_step ?_);intro K hK;go_simp;(try rw [if_neg (by unfold undef;simp)]);first | (with_reducible (refine hK _ ?_);clear hK K) | (apply Exists.intro;refine ⟨fun _=>?_,hK _ ?_⟩;(fail);clear hK K))
     with_reducible (refine wpQuiet_nil ?_)
     intro w7 hw';obtain ⟨⟨dq,osq⟩,hw''⟩:=hw'
     have bw7:Below w6.heap.size w6 w7:=by rw [hw''];exact below_regrown w6 dq osq
     clear hw'' dq osq;have HT7:=hide (HI.out.2.on bw7);have HML:=hide HI.out.1
     have HL1:Hid ((los (clips ((zipR Lo Hi).take k))).length=m):=by show _=_;unfold los;rw [List.length_map];exact HML.out
     have HL2:Hid ((his (clips ((zipR Lo Hi).take k))).length=m):=by show _=_;unfold his;rw [List.length_map];exact HML.out
     clear r1 r2 bw7 HI;go_wp2_with (at_builtin;first | (refine (HT9.out.on (ze w9 (.cells #[.int .i64 (1000000001)] 3))).b.append [1000000001] ⟨w9.heap.size,0,none⟩ 1 1 (ilit1 w9 (1000000001) _ rfl 3) (by rw [HL2.out];omega) rfl (.tmp 37) (.tmp 40) rfl m HL2.out rfl rfl ?_;intro ao8 c8 w8 O8 h8 z8;have HT8:=hide ((HT9.out.on (ze w9 (.cells #[.int .i64 (1000000001)] 3))).growB O8 h8 z8);clear O8 h8 z8) | (refine (HT7.out.on (ze w7 (.cells #[.int .i64 (1)] 3))).a.append [1] ⟨w7.heap.size,0,none⟩ 1 1 (ilit1 w7 (1) _ rfl 3) (by rw [HL1.out];omega) rfl (.tmp 33) (.tmp 35) rfl m HL1.out rfl rfl ?_;intro ai9 c9 w9 O9 h9 z9;have HT9:=hide ((HT7.out.on (ze w7 (.cells #[.int .i64 (1)] 3))).growA O9 h9 z9);clear O9 h9 z9));go_roundw
     case rel =>
      refine ⟨k+1,ai9,ao8,c9,c8,m+1,by omega,by omega,rfl,rfl,by go_num,?_,?_⟩
      ·rw [HCL.out,List.length_append,HML.out];rfl
      ·rw [HCL.out]
       have e1:los (clips ((zipR Lo Hi).take k)++[⟨1,1000000000⟩])=los (clips ((zipR Lo Hi).take k))++[1]:=by simp [los]
       have e2:his (clips ((zipR Lo Hi).take k)++[⟨1,1000000000⟩])=his (clips ((zipR Lo Hi).take k))++[1000000001]:=by simp [his]
       rw [e1,e2];exact HT8.out
     case measure=>simp [intOf];omega
    ·by_cases hxy:1 <= y
     ·have HCL:Hid (clips ((zipR Lo Hi).take (k+1))=clips ((zipR Lo Hi).take k)++[⟨1,y⟩]):=by show _=_;rw [HZ.out,qL,vm (by omega),show max x 1=1 by omega,show min y 1000000000=y by omega]
      go_wp2_with fail;refine wp_region_quiet_below (by kernel_rfl) (by kernel_rfl) ?_
      repeat (with_reducible (refine wpQuiet_step ?_);intro K hK;go_simp;(try rw [if_neg (by unfold undef;simp)]);first | (with_reducible (refine hK _ ?_);clear hK K) | (apply Exists.intro;refine ⟨fun _=>?_,hK _ ?_⟩;(fail);clear hK K))
      with_reducible (refine wpQuiet_nil ?_)
      intro w7 hw';obtain ⟨⟨dq,osq⟩,hw''⟩:=hw'
      have bw7:Below w6.heap.size w6 w7:=by rw [hw''];exact below_regrown w6 dq osq
      clear hw'' dq osq;have HT7:=hide (HI.out.2.on bw7);have HML:=hide HI.out.1
      have HL1:Hid ((los (clips ((zipR Lo Hi).take k))).length=m):=by show _=_;unfold los;rw [List.length_map];exact HML.out
      have HL2:Hid ((his (clips ((zipR Lo Hi).take k))).length=m):=by show _=_;unfold his;rw [List.length_map];exact HML.out
      clear r1 r2 bw7 HI
      have hwr:IntKind.i64.wrap (y+1)=y+1:=by rw [IntKind.wrap_i64];omega
      go_wp2_with (at_builtin;first | (refine (HT9.out.on (ze w9 (.cells #[.int .i64 (y+1)] 3))).b.append [y+1] ⟨w9.heap.size,0,none⟩ 1 1 (ilit1 w9 (y+1) _ rfl 3) (by rw [HL2.out];omega) rfl (.tmp 37) (.tmp 40) rfl m HL2.out rfl rfl ?_;intro ao8 c8 w8 O8 h8 z8;have HT8:=hide ((HT9.out.on (ze w9 (.cells #[.int .i64 (y+1)] 3))).growB O8 h8 z8);clear O8 h8 z8) | (refine (HT7.out.on (ze w7 (.cells #[.int .i64 (1)] 3))).a.append [1] ⟨w7.heap.size,0,none⟩ 1 1 (ilit1 w7 (1) _ rfl 3) (by rw [HL1.out];omega) rfl (.tmp 33) (.tmp 35) rfl m HL1.out rfl rfl ?_;intro ai9 c9 w9 O9 h9 z9;have HT9:=hide ((HT7.out.on (ze w7 (.cells #[.int .i64 (1)] 3))).growA O9 h9 z9);clear O9 h9 z9));go_roundw
      case rel =>
       refine ⟨k+1,ai9,ao8,c9,c8,m+1,by omega,by omega,rfl,rfl,by go_num,?_,?_⟩
       ·rw [HCL.out,List.length_append,HML.out];rfl
       ·rw [HCL.out]
        have e1:los (clips ((zipR Lo Hi).take k)++[⟨1,y⟩])=los (clips ((zipR Lo Hi).take k))++[1]:=by simp [los]
        have e2:his (clips ((zipR Lo Hi).take k)++[⟨1,y⟩])=his (clips ((zipR Lo Hi).take k))++[y+1]:=by simp [his]
        rw [e1,e2];exact HT8.out
      case measure=>simp [intOf];omega
     ·have HCL:Hid (clips ((zipR Lo Hi).take (k+1))=clips ((zipR Lo Hi).take k)):=by show _=_;rw [HZ.out,qL,zaA (by omega),List.append_nil]
      go_wp2_with fail;refine wp_region_quiet_below (by kernel_rfl) (by kernel_rfl) ?_
      repeat (with_reducible (refine wpQuiet_step ?_);intro K hK;go_simp;(try rw [if_neg (by unfold undef;simp)]);first | (with_reducible (refine hK _ ?_);clear hK K) | (apply Exists.intro;refine ⟨fun _=>?_,hK _ ?_⟩;(fail);clear hK K))
      with_reducible (refine wpQuiet_nil ?_)
      intro w7 hw';obtain ⟨⟨dq,osq⟩,hw''⟩:=hw'
      have bw7:Below w6.heap.size w6 w7:=by rw [hw''];exact below_regrown w6 dq osq
      clear hw'' dq osq;have HT7:=hide (HI.out.2.on bw7);have HML:=hide HI.out.1;clear r1 r2 bw7 HI;go_wp2_with fail;go_roundw
      case rel=>exact ⟨k+1,ai,ao,ci,co,m,by omega,by omega,rfl,rfl,by go_num,by rw [HCL.out];exact HML.out,by rw [HCL.out];exact HT7.out⟩
      case measure=>simp [intOf];omega
   ·by_cases hy9:1000000000 < y
    ·by_cases hxy:x <= 1000000000
     ·have HCL:Hid (clips ((zipR Lo Hi).take (k+1))=clips ((zipR Lo Hi).take k)++[⟨x,1000000000⟩]):=by show _=_;rw [HZ.out,qL,vm (by omega),show max x 1=x by omega,show min y 1000000000=1000000000 by omega]
      go_wp2_with fail;refine wp_region_quiet_below (by kernel_rfl) (by kernel_rfl) ?_
      repeat (with_reducible (refine wpQuiet_step ?_);intro K hK;go_simp;(try rw [if_neg (by unfold undef;simp)]);first | (with_reducible (refine hK _ ?_);clear hK K) | (apply Exists.intro;refine ⟨fun _=>?_,hK _ ?_⟩;(fail);clear hK K))
      with_reducible (refine wpQuiet_nil ?_)
      intro w7 hw';obtain ⟨⟨dq,osq⟩,hw''⟩:=hw'
      have bw7:Below w6.heap.size w6 w7:=by rw [hw''];exact below_regrown w6 dq osq
      clear hw'' dq osq;have HT7:=hide (HI.out.2.on bw7);have HML:=hide HI.out.1
      have HL1:Hid ((los (clips ((zipR Lo Hi).take k))).length=m):=by show _=_;unfold los;rw [List.length_map];exact HML.out
      have HL2:Hid ((his (clips ((zipR Lo Hi).take k))).length=m):=by show _=_;unfold his;rw [List.length_map];exact HML.out
      clear r1 r2 bw7 HI;go_wp2_with (at_builtin;first | (refine (HT9.out.on (ze w9 (.cells #[.int .i64 (1000000001)] 3))).b.append [1000000001] ⟨w9.heap.size,0,none⟩ 1 1 (ilit1 w9 (1000000001) _ rfl 3) (by rw [HL2.out];omega) rfl (.tmp 37) (.tmp 40) rfl m HL2.out rfl rfl ?_;intro ao8 c8 w8 O8 h8 z8;have HT8:=hide ((HT9.out.on (ze w9 (.cells #[.int .i64 (1000000001)] 3))).growB O8 h8 z8);clear O8 h8 z8) | (refine (HT7.out.on (ze w7 (.cells #[.int .i64 (x)] 3))).a.append [x] ⟨w7.heap.size,0,none⟩ 1 1 (ilit1 w7 (x) _ rfl 3) (by rw [HL1.out];omega) rfl (.tmp 33) (.tmp 35) rfl m HL1.out rfl rfl ?_;intro ai9 c9 w9 O9 h9 z9;have HT9:=hide ((HT7.out.on (ze w7 (.cells #[.int .i64 (x)] 3))).growA O9 h9 z9);clear O9 h9 z9));go_roundw
      case rel =>
       refine ⟨k+1,ai9,ao8,c9,c8,m+1,by omega,by omega,rfl,rfl,by go_num,?_,?_⟩
       ·rw [HCL.out,List.length_append,HML.out];rfl
       ·rw [HCL.out]
        have e1:los (clips ((zipR Lo Hi).take k)++[⟨x,1000000000⟩])=los (clips ((zipR Lo Hi).take k))++[x]:=by simp [los]
        have e2:his (clips ((zipR Lo Hi).take k)++[⟨x,1000000000⟩])=his (clips ((zipR Lo Hi).take k))++[1000000001]:=by simp [his]
        rw [e1,e2];exact HT8.out
      case measure=>simp [intOf];omega
     ·have HCL:Hid (clips ((zipR Lo Hi).take (k+1))=clips ((zipR Lo Hi).take k)):=by show _=_;rw [HZ.out,qL,zaA (by omega),List.append_nil]
      go_wp2_with fail;refine wp_region_quiet_below (by kernel_rfl) (by kernel_rfl) ?_
      repeat (with_reducible (refine wpQuiet_step ?_);intro K hK;go_simp;(try rw [if_neg (by unfold undef;simp)]);first | (with_reducible (refine hK _ ?_);clear hK K) | (apply Exists.intro;refine ⟨fun _=>?_,hK _ ?_⟩;(fail);clear hK K))
      with_reducible (refine wpQuiet_nil ?_)
      intro w7 hw';obtain ⟨⟨dq,osq⟩,hw''⟩:=hw'
      have bw7:Below w6.heap.size w6 w7:=by rw [hw''];exact below_regrown w6 dq osq
      clear hw'' dq osq;have HT7:=hide (HI.out.2.on bw7);have HML:=hide HI.out.1;clear r1 r2 bw7 HI;go_wp2_with fail;go_roundw
      case rel=>exact ⟨k+1,ai,ao,ci,co,m,by omega,by omega,rfl,rfl,by go_num,by rw [HCL.out];exact HML.out,by rw [HCL.out];exact HT7.out⟩
      case measure=>simp [intOf];omega
    ·by_cases hxy:x <= y
     ·have HCL:Hid (clips ((zipR Lo Hi).take (k+1))=clips ((zipR Lo Hi).take k)++[⟨x,y⟩]):=by show _=_;rw [HZ.out,qL,vm (by omega),show max x 1=x by omega,show min y 1000000000=y by omega]
      go_wp2_with fail;refine wp_region_quiet_below (by kernel_rfl) (by kernel_rfl) ?_
      repeat (with_reducible (refine wpQuiet_step ?_);intro K hK;go_simp;(try rw [if_neg (by unfold undef;simp)]);first | (with_reducible (refine hK _ ?_);clear hK K) | (apply Exists.intro;refine ⟨fun _=>?_,hK _ ?_⟩;(fail);clear hK K))
      with_reducible (refine wpQuiet_nil ?_)
      intro w7 hw';obtain ⟨⟨dq,osq⟩,hw''⟩:=hw'
      have bw7:Below w6.heap.size w6 w7:=by rw [hw''];exact below_regrown w6 dq osq
      clear hw'' dq osq;have HT7:=hide (HI.out.2.on bw7);have HML:=hide HI.out.1
      have HL1:Hid ((los (clips ((zipR Lo Hi).take k))).length=m):=by show _=_;unfold los;rw [List.length_map];exact HML.out
      have HL2:Hid ((his (clips ((zipR Lo Hi).take k))).length=m):=by show _=_;unfold his;rw [List.length_map];exact HML.out
      clear r1 r2 bw7 HI
      have hwr:IntKind.i64.wrap (y+1)=y+1:=by rw [IntKind.wrap_i64];omega
      go_wp2_with (at_builtin;first | (refine (HT9.out.on (ze w9 (.cells #[.int .i64 (y+1)] 3))).b.append [y+1] ⟨w9.heap.size,0,none⟩ 1 1 (ilit1 w9 (y+1) _ rfl 3) (by rw [HL2.out];omega) rfl (.tmp 37) (.tmp 40) rfl m HL2.out rfl rfl ?_;intro ao8 c8 w8 O8 h8 z8;have HT8:=hide ((HT9.out.on (ze w9 (.cells #[.int .i64 (y+1)] 3))).growB O8 h8 z8);clear O8 h8 z8) | (refine (HT7.out.on (ze w7 (.cells #[.int .i64 (x)] 3))).a.append [x] ⟨w7.heap.size,0,none⟩ 1 1 (ilit1 w7 (x) _ rfl 3) (by rw [HL1.out];omega) rfl (.tmp 33) (.tmp 35) rfl m HL1.out rfl rfl ?_;intro ai9 c9 w9 O9 h9 z9;have HT9:=hide ((HT7.out.on (ze w7 (.cells #[.int .i64 (x)] 3))).growA O9 h9 z9);clear O9 h9 z9));go_roundw
      case rel =>
       refine ⟨k+1,ai9,ao8,c9,c8,m+1,by omega,by omega,rfl,rfl,by go_num,?_,?_⟩
       ·rw [HCL.out,List.length_append,HML.out];rfl
       ·rw [HCL.out]
        have e1:los (clips ((zipR Lo Hi).take k)++[⟨x,y⟩])=los (clips ((zipR Lo Hi).take k))++[x]:=by simp [los]
        have e2:his (clips ((zipR Lo Hi).take k)++[⟨x,y⟩])=his (clips ((zipR Lo Hi).take k))++[y+1]:=by simp [his]
        rw [e1,e2];exact HT8.out
      case measure=>simp [intOf];omega
     ·have HCL:Hid (clips ((zipR Lo Hi).take (k+1))=clips ((zipR Lo Hi).take k)):=by show _=_;rw [HZ.out,qL,zaA (by omega),List.append_nil]
      go_wp2_with fail;refine wp_region_quiet_below (by kernel_rfl) (by kernel_rfl) ?_
      repeat (with_reducible (refine wpQuiet_step ?_);intro K hK;go_simp;(try rw [if_neg (by unfold undef;simp)]);first | (with_reducible (refine hK _ ?_);clear hK K) | (apply Exists.intro;refine ⟨fun _=>?_,hK _ ?_⟩;(fail);clear hK K))
      with_reducible (refine wpQuiet_nil ?_)
      intro w7 hw';obtain ⟨⟨dq,osq⟩,hw''⟩:=hw'
      have bw7:Below w6.heap.size w6 w7:=by rw [hw''];exact below_regrown w6 dq osq
      clear hw'' dq osq;have HT7:=hide (HI.out.2.on bw7);have HML:=hide HI.out.1;clear r1 r2 bw7 HI;go_wp2_with fail;go_roundw
      case rel=>exact ⟨k+1,ai,ao,ci,co,m,by omega,by omega,rfl,rfl,by go_num,by rw [HCL.out];exact HML.out,by rw [HCL.out];exact HT7.out⟩
      case measure=>simp [intOf];omega
  ·obtain rfl:k=n:=by omega
   have htk:(zipR Lo Hi).take k=zipR Lo Hi:=List.take_of_length_le (by rw [HZL.out];exact Nat.le_refl _);rw [htk] at HI;have HML:=hide HI.out.1
   have HL1:Hid ((los (clips (zipR Lo Hi))).length=m):=by show _=_;unfold los;rw [List.length_map];exact HML.out
   have HL2:Hid ((his (clips (zipR Lo Hi))).length=m):=by show _=_;unfold his;rw [List.length_map];exact HML.out
   obtain ⟨s1,_,g1,m1⟩:=HI.out.2.a.src;obtain ⟨s2,_,g2,m2⟩:=HI.out.2.b.src;rw [HL1.out] at s1 g1;rw [HL2.out] at s2 g2;have HS1:=hide s1;have HS2:=hide s2;have HG1:=hide (And.intro g1 m1);have HG2:=hide (And.intro g2 m2);have HB6:=hide HI.out.2.a.below;clear s1 s2 g1 g2 m1 m2 HI htk HML;go_wp2_with fail;refine (yR m ai ci _ _ HS1.out HG1.out.1 HG1.out.2 (by omega)).mono ?_;rintro e w1 ⟨a1,c1,I,rfl,S1,_,_,_,b1,p1,t1⟩;have HPI:=hide (And.intro p1 t1);have HSI:=hide S1;have HB1:=wTr HB6 b1;replace HS2:=hide (HS2.out.below b1);clear S1 b1 p1 t1 HS1 HG1;go_wp2_with fail;refine (yR m ao co _ _ HS2.out HG2.out.1 HG2.out.2 (by omega)).mono ?_;rintro e w2 ⟨a2,c2,O,rfl,S2,_,_,_,b2,p2,t2⟩;have HPO:=hide (And.intro p2 t2);have HSO:=hide S2;replace HSI:=hide (HSI.out.below b2);have HB2:=wTr HB1 b2;clear S2 b2 p2 t2 HS2 HG2 HB1 HB6
   have HGG:=hide (ziN (B:=clips (zipR Lo Hi)) (fun r hr=>wG _ r hr) HPI.out.1 HPO.out.1 HPI.out.2 HPO.out.2);have HLI:Hid (I.length=m):=HSI.out.1;have HLO:Hid (O.length=m):=HSO.out.1;go_wp2_with fail;go_loopw [10,11,12,13] (fun v dv vj vi wr=>∃ (i j:Nat) (ao:Option Addr) (cap l:Nat) (acc:List Int) (R:List Rn) (s:Option Int) (dp:Int),i <= m/\j <= m/\v = .slice ao l cap/\dv = .int .i64 dp/\vj = .int .i64 j/\vi = .int .i64 i/\dp=(i:Int) - (j:Int)/\Hid (acc.length=l/\SwV w2 wr I O i j ao cap acc R s)) (fun _ _ vj vi _=>2 * m - ((intOf vi).toNat+(intOf vj).toNat))
   case atStart=>exact ⟨0,0,none,0,0,[],[],none,0,Nat.zero_le _,Nat.zero_le _,rfl,rfl,rfl,rfl,by omega,rfl,OwnI.nil (Below.refl _ _) (Nat.le_refl _) (Nat.le_refl _),Sw.start I O,rfl⟩
   case round =>
    obtain ⟨i,j,ao,cap,l,acc,R,s,dp,hi,hj,rfl,rfl,rfl,rfl,hdp,HI⟩:=hrel
    rename World=>v6
    have hij:=HI.out.2.2.1.ij;have HDQ:=hide hdp
    have hdb : -1 < dp/\dp < 8796093022209:=by omega
    clear hdp;have HSL:=hide HI.out.2.len;by_cases him:i < m
    ·have hjm:j < m:=by omega
     obtain ⟨da,hda,q1⟩:=qw (HSI.out.below HI.out.2.1.below) i him;obtain ⟨db,hdb,q2⟩:=qw (HSO.out.below HI.out.2.1.below) j hjm;subst hda hdb;have HX:Hid (I[i]? = some (I.getD i 0)):=getD_some I i (by rw [HLI.out];exact him);have HY:Hid (O[j]? = some (O.getD j 0)):=getD_some O j (by rw [HLO.out];exact hjm);obtain ⟨x,Hx⟩:∃ x,Hid (I.getD i 0=x):=⟨_,rfl⟩;obtain ⟨y,Hy⟩:∃ y,Hid (O.getD j 0=y):=⟨_,rfl⟩;rw [Hx.out] at q1 HX;rw [Hy.out] at q2 HY;have r1:=cell_regrown q1;have r2:=cell_regrown q2;by_cases hxy:x <= y
     ·have HN:=hide (HI.out.2.2.1.inn HGG.out HX.out (fun z hz=>by rw [HY.out] at hz;obtain rfl:=Option.some.inj hz;exact hxy))
      cases s with
      | none =>
       have hd0:dp=0:=by have:=HI.out.2.2.1.st.1 rfl;have:=HDQ.out;omega
       subst hd0;rw [Option.getD_none] at HN
       have HE:Hid (acc=tn R):=by have:=HI.out.2.2.2;show _=_;simpa using this
       have HAL:=hide HI.out.1;go_wp2_with fail;refine wp_region_quiet_below (by kernel_rfl) (by kernel_rfl) ?_
       repeat (with_reducible (refine wpQuiet_step ?_);intro K hK;go_simp;(try rw [if_neg (by unfold undef;simp)]);first | (with_reducible (refine hK _ ?_);clear hK K) | (apply Exists.intro;refine ⟨fun _=>?_,hK _ ?_⟩;(fail);clear hK K))
       with_reducible (refine wpQuiet_nil ?_)
       intro v7 hw';obtain ⟨⟨dq,osq⟩,hw''⟩:=hw'
       have bv7:Below v6.heap.size v6 v7:=by rw [hw''];exact below_regrown v6 dq osq
       clear hw'' dq osq;have HO7:=hide (HI.out.2.1.later bv7);have q7:=(bv7.cell (World.block_lt_of_cell? _ _ q1)).trans q1;clear r1 r2 bv7 HI q1 q2;go_wp2_with (at_builtin;refine (HO7.out.later (ze v7 _)).append [x] ⟨v7.heap.size,0,none⟩ 1 1 (ilit1 v7 x _ rfl 3) (by have:=HSL.out;omega) rfl (.tmp 73) (.tmp 78) rfl l HAL.out rfl rfl ?_;intro ao8 c8 v8 O8 _ _;have HO8:=hide O8;clear O8);go_roundw
       case rel=>exact ⟨i+1,j,ao8,c8,l+1,acc++[x],R,some x,1,by omega,by omega,rfl,rfl,rfl,by go_num,by have:=HDQ.out;omega,by rw [List.length_append,HAL.out];rfl,HO8.out,HN.out,by rw [HE.out];rfl⟩
       case measure=>simp [intOf];omega
      | some a =>
       have hd0:(dp == 0)=false:=by
        have h:¬ i=j:=fun e=>by have:=HI.out.2.2.1.st.2 e;cases this
        have:=HDQ.out;simp;omega
       rw [Option.getD_some] at HN;have HE:=hide HI.out.2.2.2;have HAL:=hide HI.out.1
       have hwr:IntKind.i64.wrap (dp+1)=dp+1:=by rw [IntKind.wrap_i64];omega
       go_wp2_with fail;refine wp_region_quiet_below (by kernel_rfl) (by kernel_rfl) ?_
       repeat (with_reducible (refine wpQuiet_step ?_);intro K hK;go_simp;(try rw [if_neg (by unfold undef;simp)]);first | (with_reducible (refine hK _ ?_);clear hK K) | (apply Exists.intro;refine ⟨fun _=>?_,hK _ ?_⟩;(fail);clear hK K))
       with_reducible (refine wpQuiet_nil ?_)
       intro v7 hw';obtain ⟨⟨dq,osq⟩,hw''⟩:=hw'
       have bv7:Below v6.heap.size v6 v7:=by rw [hw''];exact below_regrown v6 dq osq
       clear hw'' dq osq;have HO7:=hide (HI.out.2.1.later bv7);clear r1 r2 bv7 HI q1 q2;go_wp2_with fail;go_roundw
       case rel=>exact ⟨i+1,j,ao,cap,l,acc,R,some a,dp+1,by omega,by omega,rfl,by go_num,rfl,by go_num,by have:=HDQ.out;omega,HAL.out,HO7.out,HN.out,HE.out⟩
       case measure=>simp [intOf];omega
     ·have hxy':=decide_eq_false hxy
      have HNX:Hid (∀ z,I[i]? = some z -> y < z):=fun z hz=>by rw [HX.out] at hz;obtain rfl:=Option.some.inj hz;omega
      have HDP:=hide (HI.out.2.2.1.deep HGG.out HY.out HNX.out);have hji:=HDP.out.1
      cases s with
      | none=>have:=HI.out.2.2.1.st.1 rfl;omega
      | some a =>
       have HOU:=hide (HI.out.2.2.1.out HGG.out HY.out HNX.out);have HAL:=hide HI.out.1;have HE:=hide HI.out.2.2.2
       have hwr:IntKind.i64.wrap (dp - 1)=dp - 1:=by rw [IntKind.wrap_i64];omega
       by_cases hcl:i=j+1
       ·have HN:=hide (HOU.out.2 hcl).2
        have hdv:dp=1:=by have:=HDQ.out;omega
        subst hdv;clear hcl;go_wp2_with fail;refine wp_region_quiet_below (by kernel_rfl) (by kernel_rfl) ?_
        repeat (with_reducible (refine wpQuiet_step ?_);intro K hK;go_simp;(try rw [if_neg (by unfold undef;simp)]);first | (with_reducible (refine hK _ ?_);clear hK K) | (apply Exists.intro;refine ⟨fun _=>?_,hK _ ?_⟩;(fail);clear hK K))
        with_reducible (refine wpQuiet_nil ?_)
        intro v7 hw';obtain ⟨⟨dq,osq⟩,hw''⟩:=hw'
        have bv7:Below v6.heap.size v6 v7:=by rw [hw''];exact below_regrown v6 dq osq
        clear hw'' dq osq;have HO7:=hide (HI.out.2.1.later bv7);have q7:=(bv7.cell (World.block_lt_of_cell? _ _ q2)).trans q2;clear bv7 HI q2 q1 r1 r2 hxy';go_wp2_with (at_builtin;refine (HO7.out.later (ze v7 _)).append [y] ⟨v7.heap.size,0,none⟩ 1 1 (ilit1 v7 y _ rfl 3) (by have:=HSL.out;omega) rfl (.tmp 88) (.tmp 93) rfl l HAL.out rfl rfl ?_;intro ao8 c8 v8 O8 _ _;have HO8:=hide O8;clear O8);go_roundw
        case rel=>exact ⟨i,j+1,ao8,c8,l+1,acc++[y],R++[⟨a,y - 1⟩],none,0,by omega,by omega,rfl,rfl,by go_num,rfl,by have:=HDQ.out;omega,by rw [List.length_append,HAL.out];rfl,HO8.out,HN.out,by rw [HE.out];simp only [Option.toList_some,Option.toList_none,List.append_nil];exact zcx R a y⟩
        case measure=>simp [intOf];omega
       ·have hd1:(dp - 1 == 0)=false:=by have:=HDQ.out;simp;omega
        have HN:=hide (HOU.out.1 hcl);go_wp2_with fail;refine wp_region_quiet_below (by kernel_rfl) (by kernel_rfl) ?_
        repeat (with_reducible (refine wpQuiet_step ?_);intro K hK;go_simp;(try rw [if_neg (by unfold undef;simp)]);first | (with_reducible (refine hK _ ?_);clear hK K) | (apply Exists.intro;refine ⟨fun _=>?_,hK _ ?_⟩;(fail);clear hK K))
        with_reducible (refine wpQuiet_nil ?_)
        intro v7 hw';obtain ⟨⟨dq,osq⟩,hw''⟩:=hw'
        have bv7:Below v6.heap.size v6 v7:=by rw [hw''];exact below_regrown v6 dq osq
        clear hw'' dq osq;have HO7:=hide (HI.out.2.1.later bv7);clear bv7 HI q2 q1 r1 r2 hxy';go_wp2_with fail;go_roundw
        case rel=>exact ⟨i,j+1,ao,cap,l,acc,R,some a,dp - 1,by omega,by omega,rfl,by go_num,by go_num,rfl,by have:=HDQ.out;omega,HAL.out,HO7.out,HN.out,HE.out⟩
        case measure=>simp [intOf];omega
    ·by_cases hjm:j < m
     ·obtain ⟨db,hdb,q2⟩:=qw (HSO.out.below HI.out.2.1.below) j hjm;subst hdb;have HY:Hid (O[j]? = some (O.getD j 0)):=getD_some O j (by rw [HLO.out];exact hjm);obtain ⟨y,Hy⟩:∃ y,Hid (O.getD j 0=y):=⟨_,rfl⟩;rw [Hy.out] at q2 HY;have r2:=cell_regrown q2
      have him':¬ (i:Int) < (m:Int):=by omega
      have HNX:Hid (∀ z,I[i]? = some z -> y < z):=fun z hz=>by
       have:=(List.getElem?_eq_some_iff.1 hz).1;rw [HLI.out] at this;omega
      have HDP:=hide (HI.out.2.2.1.deep HGG.out HY.out HNX.out);have hji:=HDP.out.1
      cases s with
      | none=>have:=HI.out.2.2.1.st.1 rfl;omega
      | some a =>
       have HOU:=hide (HI.out.2.2.1.out HGG.out HY.out HNX.out);have HAL:=hide HI.out.1;have HE:=hide HI.out.2.2.2
       have hwr:IntKind.i64.wrap (dp - 1)=dp - 1:=by rw [IntKind.wrap_i64];omega
       by_cases hcl:i=j+1
       ·have HN:=hide (HOU.out.2 hcl).2
        have hdv:dp=1:=by have:=HDQ.out;omega
        subst hdv;clear hcl;go_wp2_with fail;refine wp_region_quiet_below (by kernel_rfl) (by kernel_rfl) ?_
        repeat (with_reducible (refine wpQuiet_step ?_);intro K hK;go_simp;(try rw [if_neg (by unfold undef;simp)]);first | (with_reducible (refine hK _ ?_);clear hK K) | (apply Exists.intro;refine ⟨fun _=>?_,hK _ ?_⟩;(fail);clear hK K))
        with_reducible (refine wpQuiet_nil ?_)
        intro v7 hw';obtain ⟨⟨dq,osq⟩,hw''⟩:=hw'
        have bv7:Below v6.heap.size v6 v7:=by rw [hw''];exact below_regrown v6 dq osq
        clear hw'' dq osq;have HO7:=hide (HI.out.2.1.later bv7);have q7:=(bv7.cell (World.block_lt_of_cell? _ _ q2)).trans q2;clear bv7 HI q2 r2;go_wp2_with (at_builtin;refine (HO7.out.later (ze v7 _)).append [y] ⟨v7.heap.size,0,none⟩ 1 1 (ilit1 v7 y _ rfl 3) (by have:=HSL.out;omega) rfl (.tmp 88) (.tmp 93) rfl l HAL.out rfl rfl ?_;intro ao8 c8 v8 O8 _ _;have HO8:=hide O8;clear O8);go_roundw
        case rel=>exact ⟨i,j+1,ao8,c8,l+1,acc++[y],R++[⟨a,y - 1⟩],none,0,by omega,by omega,rfl,rfl,by go_num,rfl,by have:=HDQ.out;omega,by rw [List.length_append,HAL.out];rfl,HO8.out,HN.out,by rw [HE.out];simp only [Option.toList_some,Option.toList_none,List.append_nil];exact zcx R a y⟩
        case measure=>simp [intOf];omega
       ·have hd1:(dp - 1 == 0)=false:=by have:=HDQ.out;simp;omega
        have HN:=hide (HOU.out.1 hcl);go_wp2_with fail;refine wp_region_quiet_below (by kernel_rfl) (by kernel_rfl) ?_
        repeat (with_reducible (refine wpQuiet_step ?_);intro K hK;go_simp;(try rw [if_neg (by unfold undef;simp)]);first | (with_reducible (refine hK _ ?_);clear hK K) | (apply Exists.intro;refine ⟨fun _=>?_,hK _ ?_⟩;(fail);clear hK K))
        with_reducible (refine wpQuiet_nil ?_)
        intro v7 hw';obtain ⟨⟨dq,osq⟩,hw''⟩:=hw'
        have bv7:Below v6.heap.size v6 v7:=by rw [hw''];exact below_regrown v6 dq osq
        clear hw'' dq osq;have HO7:=hide (HI.out.2.1.later bv7);clear bv7 HI q2 r2;go_wp2_with fail;go_roundw
        case rel=>exact ⟨i,j+1,ao,cap,l,acc,R,some a,dp - 1,by omega,by omega,rfl,by go_num,by go_num,rfl,by have:=HDQ.out;omega,HAL.out,HO7.out,HN.out,HE.out⟩
        case measure=>simp [intOf];omega
     ·obtain rfl:i=m:=by omega
      obtain rfl:j=i:=by omega
      have him':¬ (j:Int) < (j:Int):=by omega
      obtain ⟨hs,hN⟩:=HI.out.2.2.1.done HPI.out.1 HPO.out.1 HLI.out HLO.out;subst hs;obtain ⟨S3,f3,_,_⟩:=HI.out.2.1.src;have e3:=HI.out.1;have e4:=HI.out.2.2.2;rw [e3] at S3;simp only [Option.toList_none,List.append_nil] at e4;rw [e4] at S3;have HG:Hid (GivesT w v6 (.returned (.slice ao l cap)) (zipR Lo Hi)):=⟨ao,l,cap,R,rfl,S3,fun ad h=>Nat.le_trans HB2.out.size (f3 ad h),HB2.out.trans (HI.out.2.1.below.mono HB2.out.size),hN⟩;clear S3 f3 e3 e4 hN HI;go_wp2_with fail;go_ret;exact HG.out
end Go.Proofs.YtjffpimfngdggaaGreat
