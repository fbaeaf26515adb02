/- QTu PSe PPl -/
import Derived.Test.YtaphmhbmhcahaabGreatTk
import Derived.Test.YtaphmhbmhcahaabGreatSn02
import Derived.Test.YtaphmhbmhcahaabGreatSn01
set_option maxRecDepth 100000
set_option maxHeartbeats 4000000
namespace Go.Proofs.YtaphmhbmhcahaabGreat
section
open Go.RowKit

theorem OwnI.keep {B0 B:Nat} {w w' w2:World} {ao xo:Option Addr} {cap xc:Nat} {acc X:List Int} (O:OwnI B0 B w w' xo xc X) (hb:Below B0 w w2) (hsz:w'.heap.size <= w2.heap.size)
  (h:∀ k,k < w'.heap.size -> (Value.slice ao acc.length cap).ownBlock≠some k -> w2.heap[k]? = w'.heap[k]?) (hne:∀ k,(Value.slice xo X.length xc).ownBlock=some k -> (Value.slice ao acc.length cap).ownBlock≠some k):OwnI B0 B w w2 xo xc X:=by
 refine ⟨⟨O.own.1,?_⟩,hb,Nat.le_trans O.hB hsz,O.hB0⟩;rcases O.own.2 with h0 | ⟨g,cap2,cur,hv,hbg,hgg,r⟩
 ·exact Or.inl h0
 ·refine Or.inr ⟨g,cap2,cur,hv,hbg,(h g (Array.getElem?_eq_some_iff.1 hgg).1 (hne g ?_)).trans hgg,r⟩;rw [hv];rfl
structure Two2 (w W:World) (ai:Option Addr) (ci:Nat) (I:List Int) (ao:Option Addr) (co:Nat) (O:List Int):Prop where
 a:OwnI w.heap.size w.heap.size w W ai ci I
 b:OwnI w.heap.size w.heap.size w W ao co O
 d:∀ k,(Value.slice ai I.length ci).ownBlock=some k -> (Value.slice ao O.length co).ownBlock≠some k
theorem Two2.on {w W W':World} {ai ao:Option Addr} {ci co:Nat} {I O:List Int} (T:Two2 w W ai ci I ao co O) (hb:Below W.heap.size W W'):Two2 w W' ai ci I ao co O:=⟨T.a.later hb,T.b.later hb,T.d⟩
theorem own_of {ao:Option Addr} {n c k:Nat} (h:(Value.slice ao n c).ownBlock=some k):∃ ad,ao=some ad/\ad.block=k:=by
 cases ao with
 | none=>cases h
 | some ad=>exact ⟨ad,rfl,Option.some.inj h⟩
theorem Two2.growA {w W W2:World} {ai ao ai2:Option Addr} {ci co ci2:Nat} {I O I2:List Int} (T:Two2 w W ai ci I ao co O) (N:OwnI w.heap.size w.heap.size w W2 ai2 ci2 I2) (h:∀ k,k < W.heap.size -> (Value.slice ai I.length ci).ownBlock≠some k -> W2.heap[k]? = W.heap[k]? /\ ∀ ad2,ai2=some ad2 -> ad2.block≠k) (hsz:W.heap.size <= W2.heap.size):Two2 w W2 ai2 ci2 I2 ao co O:=by
 refine ⟨N,T.b.keep N.below hsz (fun k h1 h2=>(h k h1 h2).1) (fun k hk e=>T.d k e hk),fun k hk e=>?_⟩;obtain ⟨ad2,e2,e3⟩:=own_of hk;have hlt:=(T.b.lt e).2;exact (h k hlt (fun e4=>T.d k e4 e)).2 ad2 e2 e3
theorem Two2.growB {w W W2:World} {ai ao ao2:Option Addr} {ci co co2:Nat} {I O O2:List Int} (T:Two2 w W ai ci I ao co O) (N:OwnI w.heap.size w.heap.size w W2 ao2 co2 O2) (h:∀ k,k < W.heap.size -> (Value.slice ao O.length co).ownBlock≠some k -> W2.heap[k]? = W.heap[k]? /\ ∀ ad2,ao2=some ad2 -> ad2.block≠k) (hsz:W.heap.size <= W2.heap.size):Two2 w W2 ai ci I ao2 co2 O2:=by
 refine ⟨T.a.keep N.below hsz (fun k h1 h2=>(h k h1 h2).1) (fun k hk e=>T.d k hk e),N,fun k hk e=>?_⟩;obtain ⟨ad2,e2,e3⟩:=own_of e;have hlt:=(T.a.lt hk).2;exact (h k hlt (fun e4=>T.d k hk e4)).2 ad2 e2 e3
def zipR (Lo Hi:List Int):List Rn:=List.zipWith (fun a b=>⟨a,b⟩) Lo Hi
theorem zipR_take (Lo Hi:List Int) (k:Nat) (h1:k < Lo.length) (h2:k < Hi.length):(zipR Lo Hi).take (k+1)=(zipR Lo Hi).take k++[⟨Lo.getD k 0,Hi.getD k 0⟩]:=by
 have hl:k < (zipR Lo Hi).length:=by unfold zipR;rw [List.length_zipWith];omega
 rw [List.take_succ_eq_append_getElem hl];simp [zipR,List.getD,h1,h2]
theorem clips_append (a b:List Rn):clips (a++b)=clips a++clips b:=by simp [clips]
theorem clips_yes {x y:Int} (h:max x 1 <= min y 1000000000):clips [⟨x,y⟩]=[⟨max x 1,min y 1000000000⟩]:=by simp [clips,clip,h]
theorem clips_no {x y:Int} (h:¬ max x 1 <= min y 1000000000):clips [⟨x,y⟩]=[]:=by simp [clips,clip,h]
def los (B:List Rn):List Int:=B.map (fun r=>r.lo)
def his (B:List Rn):List Int:=B.map (fun r=>r.hi+1)
def GivesT (w w':World) (e:Ending) (A:List Rn):Prop:=∃ ao n c X,e = .returned (.slice ao n c)/\V.Src w' ao n c (tn X)/\(∀ ad,ao=some ad -> w.heap.size <= ad.block)/\Below w.heap.size w w'/\NormOf A X
def SwV (w W:World) (I O:List Int) (i j:Nat) (ao:Option Addr) (cap:Nat) (acc:List Int) (R:List Rn) (s:Option Int):Prop:=OwnI w.heap.size w.heap.size w W ao cap acc/\Sw I O i j R s/\acc=tn R++s.toList
theorem SwV.len {w W:World} {I O:List Int} {i j:Nat} {ao:Option Addr} {cap:Nat} {acc:List Int} {R:List Rn} {s:Option Int} (h:SwV w W I O i j ao cap acc R s):acc.length <= 1000000003:=by
 have:=form_small (Int.le_refl _) h.2.1.fm;rw [h.2.2,List.length_append,tn_length]
 cases s <;> simp <;> omega
theorem tn_close (R:List Rn) (a y:Int):tn R++[a]++[y]=tn (R++[⟨a,y - 1⟩]):=by rw [tn_snoc,List.append_assoc];simp
theorem turns_any (la lb:Option Addr) (n ca cb:Nat) (Lo Hi:List Int) (w:World) (hA:V.Src w la n ca Lo) (hB:V.Src w lb n cb Hi) (hn:n <= 8796093022207) :
  Calls Tryz.prog 153 #[.slice la n ca,.slice lb n cb] w fun e w'=>GivesT w w' e (zipR Lo Hi):=by
 have HA:=hide hA;have HB:=hide hB
 have HZL:Hid ((zipR Lo Hi).length=n):=by show _=_;unfold zipR;rw [List.length_zipWith,hA.1,hB.1];omega
 clear hA hB;go_enter Tryz.func153,Tryz.ntmps153;go_wp2_with fail;go_loopw [5,6,7] (fun v u vi wr=>∃ (k:Nat) (ai ao:Option Addr) (ci co m:Nat),k <= n/\m <= k/\v = .slice ai m ci/\u = .slice ao m co/\vi = .int .i64 k/\Hid ((clips ((zipR Lo Hi).take k)).length=m/\Two2 w wr ai ci (los (clips ((zipR Lo Hi).take k))) ao co (his (clips ((zipR Lo Hi).take k))))) (fun _ _ vi _=>n - (intOf vi).toNat)
 case atStart=>exact ⟨0,none,none,0,0,0,Nat.zero_le _,Nat.zero_le _,rfl,rfl,rfl,by simp [clips],⟨OwnI.nil (Below.refl _ _) (Nat.le_refl _) (Nat.le_refl _),OwnI.nil (Below.refl _ _) (Nat.le_refl _) (Nat.le_refl _),fun k h=>by cases h⟩⟩
 case round =>
  obtain ⟨k,ai,ao,ci,co,m,hk,hm,rfl,rfl,rfl,HI⟩:=hrel
  rename World=>w6
  by_cases hlt:k < n
  ·obtain ⟨da,hda,q1⟩:=isrc_at (HA.out.below HI.out.2.a.below) k hlt;obtain ⟨db,hdb,q2⟩:=isrc_at (HB.out.below HI.out.2.a.below) k hlt;subst hda hdb;have HZ:=hide (zipR_take Lo Hi k (by rw [HA.out.1];exact hlt) (by rw [HB.out.1];exact hlt));obtain ⟨x,Hx⟩:∃ x,Hid (Lo.getD k 0=x):=⟨_,rfl⟩;obtain ⟨y,Hy⟩:∃ y,Hid (Hi.getD k 0=y):=⟨_,rfl⟩;rw [Hx.out] at q1 HZ;rw [Hy.out] at q2 HZ;have r1:=cell_regrown q1;have r2:=cell_regrown q2;clear q1 q2;by_cases hx1:x < 1
   ·by_cases hy9:1000000000 < y
    ·have HCL:Hid (clips ((zipR Lo Hi).take (k+1))=clips ((zipR Lo Hi).take k)++[⟨1,1000000000⟩]):=by show _=_;rw [HZ.out,clips_append,clips_yes (by omega),show max x 1=1 by omega,show min y 1000000000=1000000000 by omega]
     go_wp2_with fail;refine wp_region_quiet_below (by kernel_rfl) (by kernel_rfl) ?_
     repeat (with_reducible (refine wpQuiet_step ?_);intro K hK;go_simp;(try rw [if_neg (by unfold undef;simp)]);first | (with_reducible (refine hK _ ?_);clear hK K) | (apply Exists.intro;refine ⟨fun _=>?_,hK _ ?_⟩;(fail);clear hK K))
     with_reducible (refine wpQuiet_nil ?_)
     intro w7 hw';obtain ⟨⟨dq,osq⟩,hw''⟩:=hw'
     have bw7:Below w6.heap.size w6 w7:=by rw [hw''];exact below_regrown w6 dq osq
     clear hw'' dq osq;have HT7:=hide (HI.out.2.on bw7);have HML:=hide HI.out.1
     have HL1:Hid ((los (clips ((zipR Lo Hi).take k))).length=m):=by show _=_;unfold los;rw [List.length_map];exact HML.out
     have HL2:Hid ((his (clips ((zipR Lo Hi).take k))).length=m):=by show _=_;unfold his;rw [List.length_map];exact HML.out
     clear r1 r2 bw7 HI;go_wp2_with (at_builtin;first | (refine (HT9.out.on (below_new w9 (.cells #[.int .i64 (1000000001)] 3))).b.append [1000000001] ⟨w9.heap.size,0,none⟩ 1 1 (ilit1 w9 (1000000001) _ rfl 3) (by rw [HL2.out];omega) rfl (.tmp 37) (.tmp 40) rfl m HL2.out rfl rfl ?_;intro ao8 c8 w8 O8 h8 z8;have HT8:=hide ((HT9.out.on (below_new w9 (.cells #[.int .i64 (1000000001)] 3))).growB O8 h8 z8);clear O8 h8 z8) | (refine (HT7.out.on (below_new w7 (.cells #[.int .i64 (1)] 3))).a.append [1] ⟨w7.heap.size,0,none⟩ 1 1 (ilit1 w7 (1) _ rfl 3) (by rw [HL1.out];omega) rfl (.tmp 33) (.tmp 35) rfl m HL1.out rfl rfl ?_;intro ai9 c9 w9 O9 h9 z9;have HT9:=hide ((HT7.out.on (below_new w7 (.cells #[.int .i64 (1)] 3))).growA O9 h9 z9);clear O9 h9 z9));go_roundw
     case rel =>
      refine ⟨k+1,ai9,ao8,c9,c8,m+1,by omega,by omega,rfl,rfl,by go_num,?_,?_⟩
      ·rw [HCL.out,List.length_append,HML.out];rfl
      ·rw [HCL.out]
       have e1:los (clips ((zipR Lo Hi).take k)++[⟨1,1000000000⟩])=los (clips ((zipR Lo Hi).take k))++[1]:=by simp [los]
       have e2:his (clips ((zipR Lo Hi).take k)++[⟨1,1000000000⟩])=his (clips ((zipR Lo Hi).take k))++[1000000001]:=by simp [his]
       rw [e1,e2];exact HT8.out
     case measure=>simp [intOf];omega
    ·by_cases hxy:1 <= y
     ·have HCL:Hid (clips ((zipR Lo Hi).take (k+1))=clips ((zipR Lo Hi).take k)++[⟨1,y⟩]):=by show _=_;rw [HZ.out,clips_append,clips_yes (by omega),show max x 1=1 by omega,show min y 1000000000=y by omega]
      go_wp2_with fail;refine wp_region_quiet_below (by kernel_rfl) (by kernel_rfl) ?_
      repeat (with_reducible (refine wpQuiet_step ?_);intro K hK;go_simp;(try rw [if_neg (by unfold undef;simp)]);first | (with_reducible (refine hK _ ?_);clear hK K) | (apply Exists.intro;refine ⟨fun _=>?_,hK _ ?_⟩;(fail);clear hK K))
      with_reducible (refine wpQuiet_nil ?_)
      intro w7 hw';obtain ⟨⟨dq,osq⟩,hw''⟩:=hw'
      have bw7:Below w6.heap.size w6 w7:=by rw [hw''];exact below_regrown w6 dq osq
      clear hw'' dq osq;have HT7:=hide (HI.out.2.on bw7);have HML:=hide HI.out.1
      have HL1:Hid ((los (clips ((zipR Lo Hi).take k))).length=m):=by show _=_;unfold los;rw [List.length_map];exact HML.out
      have HL2:Hid ((his (clips ((zipR Lo Hi).take k))).length=m):=by show _=_;unfold his;rw [List.length_map];exact HML.out
      clear r1 r2 bw7 HI
      have hwr:IntKind.i64.wrap (y+1)=y+1:=by rw [IntKind.wrap_i64];omega
      go_wp2_with (at_builtin;first | (refine (HT9.out.on (below_new w9 (.cells #[.int .i64 (y+1)] 3))).b.append [y+1] ⟨w9.heap.size,0,none⟩ 1 1 (ilit1 w9 (y+1) _ rfl 3) (by rw [HL2.out];omega) rfl (.tmp 37) (.tmp 40) rfl m HL2.out rfl rfl ?_;intro ao8 c8 w8 O8 h8 z8;have HT8:=hide ((HT9.out.on (below_new w9 (.cells #[.int .i64 (y+1)] 3))).growB O8 h8 z8);clear O8 h8 z8) | (refine (HT7.out.on (below_new w7 (.cells #[.int .i64 (1)] 3))).a.append [1] ⟨w7.heap.size,0,none⟩ 1 1 (ilit1 w7 (1) _ rfl 3) (by rw [HL1.out];omega) rfl (.tmp 33) (.tmp 35) rfl m HL1.out rfl rfl ?_;intro ai9 c9 w9 O9 h9 z9;have HT9:=hide ((HT7.out.on (below_new w7 (.cells #[.int .i64 (1)] 3))).growA O9 h9 z9);clear O9 h9 z9));go_roundw
      case rel =>
       refine ⟨k+1,ai9,ao8,c9,c8,m+1,by omega,by omega,rfl,rfl,by go_num,?_,?_⟩
       ·rw [HCL.out,List.length_append,HML.out];rfl
       ·rw [HCL.out]
        have e1:los (clips ((zipR Lo Hi).take k)++[⟨1,y⟩])=los (clips ((zipR Lo Hi).take k))++[1]:=by simp [los]
        have e2:his (clips ((zipR Lo Hi).take k)++[⟨1,y⟩])=his (clips ((zipR Lo Hi).take k))++[y+1]:=by simp [his]
        rw [e1,e2];exact HT8.out
      case measure=>simp [intOf];omega
     ·have HCL:Hid (clips ((zipR Lo Hi).take (k+1))=clips ((zipR Lo Hi).take k)):=by show _=_;rw [HZ.out,clips_append,clips_no (by omega),List.append_nil]
      go_wp2_with fail;refine wp_region_quiet_below (by kernel_rfl) (by kernel_rfl) ?_
      repeat (with_reducible (refine wpQuiet_step ?_);intro K hK;go_simp;(try rw [if_neg (by unfold undef;simp)]);first | (with_reducible (refine hK _ ?_);clear hK K) | (apply Exists.intro;refine ⟨fun _=>?_,hK _ ?_⟩;(fail);clear hK K))
      with_reducible (refine wpQuiet_nil ?_)
      intro w7 hw';obtain ⟨⟨dq,osq⟩,hw''⟩:=hw'
      have bw7:Below w6.heap.size w6 w7:=by rw [hw''];exact below_regrown w6 dq osq
      clear hw'' dq osq;have HT7:=hide (HI.out.2.on bw7);have HML:=hide HI.out.1;clear r1 r2 bw7 HI;go_wp2_with fail;go_roundw
      case rel=>exact ⟨k+1,ai,ao,ci,co,m,by omega,by omega,rfl,rfl,by go_num,by rw [HCL.out];exact HML.out,by rw [HCL.out];exact HT7.out⟩
      case measure=>simp [intOf];omega
   ·by_cases hy9:1000000000 < y
    ·by_cases hxy:x <= 1000000000
     ·have HCL:Hid (clips ((zipR Lo Hi).take (k+1))=clips ((zipR Lo Hi).take k)++[⟨x,1000000000⟩]):=by show _=_;rw [HZ.out,clips_append,clips_yes (by omega),show max x 1=x by omega,show min y 1000000000=1000000000 by omega]
      go_wp2_with fail;refine wp_region_quiet_below (by kernel_rfl) (by kernel_rfl) ?_
      repeat (with_reducible (refine wpQuiet_step ?_);intro K hK;go_simp;(try rw [if_neg (by unfold undef;simp)]);first | (with_reducible (refine hK _ ?_);clear hK K) | (apply Exists.intro;refine ⟨fun _=>?_,hK _ ?_⟩;(fail);clear hK K))
      with_reducible (refine wpQuiet_nil ?_)
      intro w7 hw';obtain ⟨⟨dq,osq⟩,hw''⟩:=hw'
      have bw7:Below w6.heap.size w6 w7:=by rw [hw''];exact below_regrown w6 dq osq
      clear hw'' dq osq;have HT7:=hide (HI.out.2.on bw7);have HML:=hide HI.out.1
      have HL1:Hid ((los (clips ((zipR Lo Hi).take k))).length=m):=by show _=_;unfold los;rw [List.length_map];exact HML.out
      have HL2:Hid ((his (clips ((zipR Lo Hi).take k))).length=m):=by show _=_;unfold his;rw [List.length_map];exact HML.out
      clear r1 r2 bw7 HI;go_wp2_with (at_builtin;first | (refine (HT9.out.on (below_new w9 (.cells #[.int .i64 (1000000001)] 3))).b.append [1000000001] ⟨w9.heap.size,0,none⟩ 1 1 (ilit1 w9 (1000000001) _ rfl 3) (by rw [HL2.out];omega) rfl (.tmp 37) (.tmp 40) rfl m HL2.out rfl rfl ?_;intro ao8 c8 w8 O8 h8 z8;have HT8:=hide ((HT9.out.on (below_new w9 (.cells #[.int .i64 (1000000001)] 3))).growB O8 h8 z8);clear O8 h8 z8) | (refine (HT7.out.on (below_new w7 (.cells #[.int .i64 (x)] 3))).a.append [x] ⟨w7.heap.size,0,none⟩ 1 1 (ilit1 w7 (x) _ rfl 3) (by rw [HL1.out];omega) rfl (.tmp 33) (.tmp 35) rfl m HL1.out rfl rfl ?_;intro ai9 c9 w9 O9 h9 z9;have HT9:=hide ((HT7.out.on (below_new w7 (.cells #[.int .i64 (x)] 3))).growA O9 h9 z9);clear O9 h9 z9));go_roundw
      case rel =>
       refine ⟨k+1,ai9,ao8,c9,c8,m+1,by omega,by omega,rfl,rfl,by go_num,?_,?_⟩
       ·rw [HCL.out,List.length_append,HML.out];rfl
       ·rw [HCL.out]
        have e1:los (clips ((zipR Lo Hi).take k)++[⟨x,1000000000⟩])=los (clips ((zipR Lo Hi).take k))++[x]:=by simp [los]
        have e2:his (clips ((zipR Lo Hi).take k)++[⟨x,1000000000⟩])=his (clips ((zipR Lo Hi).take k))++[1000000001]:=by simp [his]
        rw [e1,e2];exact HT8.out
      case measure=>simp [intOf];omega
     ·have HCL:Hid (clips ((zipR Lo Hi).take (k+1))=clips ((zipR Lo Hi).take k)):=by show _=_;rw [HZ.out,clips_append,clips_no (by omega),List.append_nil]
      go_wp2_with fail;refine wp_region_quiet_below (by kernel_rfl) (by kernel_rfl) ?_
      repeat (with_reducible (refine wpQuiet_step ?_);intro K hK;go_simp;(try rw [if_neg (by unfold undef;simp)]);first | (with_reducible (refine hK _ ?_);clear hK K) | (apply Exists.intro;refine ⟨fun _=>?_,hK _ ?_⟩;(fail);clear hK K))
      with_reducible (refine wpQuiet_nil ?_)
      intro w7 hw';obtain ⟨⟨dq,osq⟩,hw''⟩:=hw'
      have bw7:Below w6.heap.size w6 w7:=by rw [hw''];exact below_regrown w6 dq osq
      clear hw'' dq osq;have HT7:=hide (HI.out.2.on bw7);have HML:=hide HI.out.1;clear r1 r2 bw7 HI;go_wp2_with fail;go_roundw
      case rel=>exact ⟨k+1,ai,ao,ci,co,m,by omega,by omega,rfl,rfl,by go_num,by rw [HCL.out];exact HML.out,by rw [HCL.out];exact HT7.out⟩
      case measure=>simp [intOf];omega
    ·by_cases hxy:x <= y
     ·have HCL:Hid (clips ((zipR Lo Hi).take (k+1))=clips ((zipR Lo Hi).take k)++[⟨x,y⟩]):=by show _=_;rw [HZ.out,clips_append,clips_yes (by omega),show max x 1=x by omega,show min y 1000000000=y by omega]
      go_wp2_with fail;refine wp_region_quiet_below (by kernel_rfl) (by kernel_rfl) ?_
      repeat (with_reducible (refine wpQuiet_step ?_);intro K hK;go_simp;(try rw [if_neg (by unfold undef;simp)]);first | (with_reducible (refine hK _ ?_);clear hK K) | (apply Exists.intro;refine ⟨fun _=>?_,hK _ ?_⟩;(fail);clear hK K))
      with_reducible (refine wpQuiet_nil ?_)
      intro w7 hw';obtain ⟨⟨dq,osq⟩,hw''⟩:=hw'
      have bw7:Below w6.heap.size w6 w7:=by rw [hw''];exact below_regrown w6 dq osq
      clear hw'' dq osq;have HT7:=hide (HI.out.2.on bw7);have HML:=hide HI.out.1
      have HL1:Hid ((los (clips ((zipR Lo Hi).take k))).length=m):=by show _=_;unfold los;rw [List.length_map];exact HML.out
      have HL2:Hid ((his (clips ((zipR Lo Hi).take k))).length=m):=by show _=_;unfold his;rw [List.length_map];exact HML.out
      clear r1 r2 bw7 HI
      have hwr:IntKind.i64.wrap (y+1)=y+1:=by rw [IntKind.wrap_i64];omega
      go_wp2_with (at_builtin;first | (refine (HT9.out.on (below_new w9 (.cells #[.int .i64 (y+1)] 3))).b.append [y+1] ⟨w9.heap.size,0,none⟩ 1 1 (ilit1 w9 (y+1) _ rfl 3) (by rw [HL2.out];omega) rfl (.tmp 37) (.tmp 40) rfl m HL2.out rfl rfl ?_;intro ao8 c8 w8 O8 h8 z8;have HT8:=hide ((HT9.out.on (below_new w9 (.cells #[.int .i64 (y+1)] 3))).growB O8 h8 z8);clear O8 h8 z8) | (refine (HT7.out.on (below_new w7 (.cells #[.int .i64 (x)] 3))).a.append [x] ⟨w7.heap.size,0,none⟩ 1 1 (ilit1 w7 (x) _ rfl 3) (by rw [HL1.out];omega) rfl (.tmp 33) (.tmp 35) rfl m HL1.out rfl rfl ?_;intro ai9 c9 w9 O9 h9 z9;have HT9:=hide ((HT7.out.on (below_new w7 (.cells #[.int .i64 (x)] 3))).growA O9 h9 z9);clear O9 h9 z9));go_roundw
      case rel =>
       refine ⟨k+1,ai9,ao8,c9,c8,m+1,by omega,by omega,rfl,rfl,by go_num,?_,?_⟩
       ·rw [HCL.out,List.length_append,HML.out];rfl
       ·rw [HCL.out]
        have e1:los (clips ((zipR Lo Hi).take k)++[⟨x,y⟩])=los (clips ((zipR Lo Hi).take k))++[x]:=by simp [los]
        have e2:his (clips ((zipR Lo Hi).take k)++[⟨x,y⟩])=his (clips ((zipR Lo Hi).take k))++[y+1]:=by simp [his]
        rw [e1,e2];exact HT8.out
      case measure=>simp [intOf];omega
     ·have HCL:Hid (clips ((zipR Lo Hi).take (k+1))=clips ((zipR Lo Hi).take k)):=by show _=_;rw [HZ.out,clips_append,clips_no (by omega),List.append_nil]
      go_wp2_with fail;refine wp_region_quiet_below (by kernel_rfl) (by kernel_rfl) ?_
      repeat (with_reducible (refine wpQuiet_step ?_);intro K hK;go_simp;(try rw [if_neg (by unfold undef;simp)]);first | (with_reducible (refine hK _ ?_);clear hK K) | (apply Exists.intro;refine ⟨fun _=>?_,hK _ ?_⟩;(fail);clear hK K))
      with_reducible (refine wpQuiet_nil ?_)
      intro w7 hw';obtain ⟨⟨dq,osq⟩,hw''⟩:=hw'
      have bw7:Below w6.heap.size w6 w7:=by rw [hw''];exact below_regrown w6 dq osq
      clear hw'' dq osq;have HT7:=hide (HI.out.2.on bw7);have HML:=hide HI.out.1;clear r1 r2 bw7 HI;go_wp2_with fail;go_roundw
      case rel=>exact ⟨k+1,ai,ao,ci,co,m,by omega,by omega,rfl,rfl,by go_num,by rw [HCL.out];exact HML.out,by rw [HCL.out];exact HT7.out⟩
      case measure=>simp [intOf];omega
  ·obtain rfl:k=n:=by omega
   have htk:(zipR Lo Hi).take k=zipR Lo Hi:=List.take_of_length_le (by rw [HZL.out];exact Nat.le_refl _);rw [htk] at HI;have HML:=hide HI.out.1
   have HL1:Hid ((los (clips (zipR Lo Hi))).length=m):=by show _=_;unfold los;rw [List.length_map];exact HML.out
   have HL2:Hid ((his (clips (zipR Lo Hi))).length=m):=by show _=_;unfold his;rw [List.length_map];exact HML.out
   obtain ⟨s1,_,g1,m1⟩:=HI.out.2.a.src;obtain ⟨s2,_,g2,m2⟩:=HI.out.2.b.src;rw [HL1.out] at s1 g1;rw [HL2.out] at s2 g2;have HS1:=hide s1;have HS2:=hide s2;have HG1:=hide (And.intro g1 m1);have HG2:=hide (And.intro g2 m2);have HB6:=hide HI.out.2.a.below;clear s1 s2 g1 g2 m1 m2 HI htk HML;go_wp2_with fail;refine (sorted_any m ai ci _ _ HS1.out HG1.out.1 HG1.out.2 (by omega)).mono ?_;rintro e w1 ⟨a1,c1,I,rfl,S1,_,_,_,b1,p1,t1⟩;have HPI:=hide (And.intro p1 t1);have HSI:=hide S1;have HB1:=wTr HB6 b1;replace HS2:=hide (HS2.out.below b1);clear S1 b1 p1 t1 HS1 HG1;go_wp2_with fail;refine (sorted_any m ao co _ _ HS2.out HG2.out.1 HG2.out.2 (by omega)).mono ?_;rintro e w2 ⟨a2,c2,O,rfl,S2,_,_,_,b2,p2,t2⟩;have HPO:=hide (And.intro p2 t2);have HSO:=hide S2;replace HSI:=hide (HSI.out.below b2);have HB2:=wTr HB1 b2;clear S2 b2 p2 t2 HS2 HG2 HB1 HB6
   have HGG:=hide (swG_of (B:=clips (zipR Lo Hi)) (fun r hr=>clips_in _ r hr) HPI.out.1 HPO.out.1 HPI.out.2 HPO.out.2);have HLI:Hid (I.length=m):=HSI.out.1;have HLO:Hid (O.length=m):=HSO.out.1;go_wp2_with fail;go_loopw [10,11,12,13] (fun v dv vj vi wr=>∃ (i j:Nat) (ao:Option Addr) (cap l:Nat) (acc:List Int) (R:List Rn) (s:Option Int) (dp:Int),i <= m/\j <= m/\v = .slice ao l cap/\dv = .int .i64 dp/\vj = .int .i64 j/\vi = .int .i64 i/\dp=(i:Int) - (j:Int)/\Hid (acc.length=l/\SwV w2 wr I O i j ao cap acc R s)) (fun _ _ vj vi _=>2 * m - ((intOf vi).toNat+(intOf vj).toNat))
   case atStart=>exact ⟨0,0,none,0,0,[],[],none,0,Nat.zero_le _,Nat.zero_le _,rfl,rfl,rfl,rfl,by omega,rfl,OwnI.nil (Below.refl _ _) (Nat.le_refl _) (Nat.le_refl _),Sw.start I O,rfl⟩
   case round =>
    obtain ⟨i,j,ao,cap,l,acc,R,s,dp,hi,hj,rfl,rfl,rfl,rfl,hdp,HI⟩:=hrel
    rename World=>v6
    have hij:=HI.out.2.2.1.ij;have HDQ:=hide hdp
    have hdb : -1 < dp/\dp < 8796093022209:=by omega
    clear hdp;have HSL:=hide HI.out.2.len;by_cases him:i < m
    ·have hjm:j < m:=by omega
     obtain ⟨da,hda,q1⟩:=isrc_at (HSI.out.below HI.out.2.1.below) i him;obtain ⟨db,hdb,q2⟩:=isrc_at (HSO.out.below HI.out.2.1.below) j hjm;subst hda hdb;have HX:Hid (I[i]? = some (I.getD i 0)):=getD_some I i (by rw [HLI.out];exact him);have HY:Hid (O[j]? = some (O.getD j 0)):=getD_some O j (by rw [HLO.out];exact hjm);obtain ⟨x,Hx⟩:∃ x,Hid (I.getD i 0=x):=⟨_,rfl⟩;obtain ⟨y,Hy⟩:∃ y,Hid (O.getD j 0=y):=⟨_,rfl⟩;rw [Hx.out] at q1 HX;rw [Hy.out] at q2 HY;have r1:=cell_regrown q1;have r2:=cell_regrown q2;by_cases hxy:x <= y
     ·have HN:=hide (HI.out.2.2.1.inn HGG.out HX.out (fun z hz=>by rw [HY.out] at hz;obtain rfl:=Option.some.inj hz;exact hxy))
      cases s with
      | none =>
       have hd0:dp=0:=by have:=HI.out.2.2.1.st.1 rfl;have:=HDQ.out;omega
       subst hd0;rw [Option.getD_none] at HN
       have HE:Hid (acc=tn R):=by have:=HI.out.2.2.2;show _=_;simpa using this
       have HAL:=hide HI.out.1;go_wp2_with fail;refine wp_region_quiet_below (by kernel_rfl) (by kernel_rfl) ?_
       repeat (with_reducible (refine wpQuiet_step ?_);intro K hK;go_simp;(try rw [if_neg (by unfold undef;simp)]);first | (with_reducible (refine hK _ ?_);clear hK K) | (apply Exists.intro;refine ⟨fun _=>?_,hK _ ?_⟩;(fail);clear hK K))
       with_reducible (refine wpQuiet_nil ?_)
       intro v7 hw';obtain ⟨⟨dq,osq⟩,hw''⟩:=hw'
       have bv7:Below v6.heap.size v6 v7:=by rw [hw''];exact below_regrown v6 dq osq
       clear hw'' dq osq;have HO7:=hide (HI.out.2.1.later bv7);have q7:=(bv7.cell (World.block_lt_of_cell? _ _ q1)).trans q1;clear r1 r2 bv7 HI q1 q2;go_wp2_with (at_builtin;refine (HO7.out.later (below_new v7 _)).append [x] ⟨v7.heap.size,0,none⟩ 1 1 (ilit1 v7 x _ rfl 3) (by have:=HSL.out;omega) rfl (.tmp 73) (.tmp 78) rfl l HAL.out rfl rfl ?_;intro ao8 c8 v8 O8 _ _;have HO8:=hide O8;clear O8);go_roundw
       case rel=>exact ⟨i+1,j,ao8,c8,l+1,acc++[x],R,some x,1,by omega,by omega,rfl,rfl,rfl,by go_num,by have:=HDQ.out;omega,by rw [List.length_append,HAL.out];rfl,HO8.out,HN.out,by rw [HE.out];rfl⟩
       case measure=>simp [intOf];omega
      | some a =>
       have hd0:(dp == 0)=false:=by
        have h:¬ i=j:=fun e=>by have:=HI.out.2.2.1.st.2 e;cases this
        have:=HDQ.out;simp;omega
       rw [Option.getD_some] at HN;have HE:=hide HI.out.2.2.2;have HAL:=hide HI.out.1
       have hwr:IntKind.i64.wrap (dp+1)=dp+1:=by rw [IntKind.wrap_i64];omega
       go_wp2_with fail;refine wp_region_quiet_below (by kernel_rfl) (by kernel_rfl) ?_
       repeat (with_reducible (refine wpQuiet_step ?_);intro K hK;go_simp;(try rw [if_neg (by unfold undef;simp)]);first | (with_reducible (refine hK _ ?_);clear hK K) | (apply Exists.intro;refine ⟨fun _=>?_,hK _ ?_⟩;(fail);clear hK K))
       with_reducible (refine wpQuiet_nil ?_)
       intro v7 hw';obtain ⟨⟨dq,osq⟩,hw''⟩:=hw'
       have bv7:Below v6.heap.size v6 v7:=by rw [hw''];exact below_regrown v6 dq osq
       clear hw'' dq osq;have HO7:=hide (HI.out.2.1.later bv7);clear r1 r2 bv7 HI q1 q2;go_wp2_with fail;go_roundw
       case rel=>exact ⟨i+1,j,ao,cap,l,acc,R,some a,dp+1,by omega,by omega,rfl,by go_num,rfl,by go_num,by have:=HDQ.out;omega,HAL.out,HO7.out,HN.out,HE.out⟩
       case measure=>simp [intOf];omega
     ·have hxy':=decide_eq_false hxy
      have HNX:Hid (∀ z,I[i]? = some z -> y < z):=fun z hz=>by rw [HX.out] at hz;obtain rfl:=Option.some.inj hz;omega
      have HDP:=hide (HI.out.2.2.1.deep HGG.out HY.out HNX.out);have hji:=HDP.out.1
      cases s with
      | none=>have:=HI.out.2.2.1.st.1 rfl;omega
      | some a =>
       have HOU:=hide (HI.out.2.2.1.out HGG.out HY.out HNX.out);have HAL:=hide HI.out.1;have HE:=hide HI.out.2.2.2
       have hwr:IntKind.i64.wrap (dp - 1)=dp - 1:=by rw [IntKind.wrap_i64];omega
       by_cases hcl:i=j+1
       ·have HN:=hide (HOU.out.2 hcl).2
        have hdv:dp=1:=by have:=HDQ.out;omega
        subst hdv;clear hcl;go_wp2_with fail;refine wp_region_quiet_below (by kernel_rfl) (by kernel_rfl) ?_
        repeat (with_reducible (refine wpQuiet_step ?_);intro K hK;go_simp;(try rw [if_neg (by unfold undef;simp)]);first | (with_reducible (refine hK _ ?_);clear hK K) | (apply Exists.intro;refine ⟨fun _=>?_,hK _ ?_⟩;(fail);clear hK K))
        with_reducible (refine wpQuiet_nil ?_)
        intro v7 hw';obtain ⟨⟨dq,osq⟩,hw''⟩:=hw'
        have bv7:Below v6.heap.size v6 v7:=by rw [hw''];exact below_regrown v6 dq osq
        clear hw'' dq osq;have HO7:=hide (HI.out.2.1.later bv7);have q7:=(bv7.cell (World.block_lt_of_cell? _ _ q2)).trans q2;clear bv7 HI q2 q1 r1 r2 hxy';go_wp2_with (at_builtin;refine (HO7.out.later (below_new v7 _)).append [y] ⟨v7.heap.size,0,none⟩ 1 1 (ilit1 v7 y _ rfl 3) (by have:=HSL.out;omega) rfl (.tmp 88) (.tmp 93) rfl l HAL.out rfl rfl ?_;intro ao8 c8 v8 O8 _ _;have HO8:=hide O8;clear O8);go_roundw
        case rel=>exact ⟨i,j+1,ao8,c8,l+1,acc++[y],R++[⟨a,y - 1⟩],none,0,by omega,by omega,rfl,rfl,by go_num,rfl,by have:=HDQ.out;omega,by rw [List.length_append,HAL.out];rfl,HO8.out,HN.out,by rw [HE.out];simp only [Option.toList_some,Option.toList_none,List.append_nil];exact tn_close R a y⟩
        case measure=>simp [intOf];omega
       ·have hd1:(dp - 1 == 0)=false:=by have:=HDQ.out;simp;omega
        have HN:=hide (HOU.out.1 hcl);go_wp2_with fail;refine wp_region_quiet_below (by kernel_rfl) (by kernel_rfl) ?_
        repeat (with_reducible (refine wpQuiet_step ?_);intro K hK;go_simp;(try rw [if_neg (by unfold undef;simp)]);first | (with_reducible (refine hK _ ?_);clear hK K) | (apply Exists.intro;refine ⟨fun _=>?_,hK _ ?_⟩;(fail);clear hK K))
        with_reducible (refine wpQuiet_nil ?_)
        intro v7 hw';obtain ⟨⟨dq,osq⟩,hw''⟩:=hw'
        have bv7:Below v6.heap.size v6 v7:=by rw [hw''];exact below_regrown v6 dq osq
        clear hw'' dq osq;have HO7:=hide (HI.out.2.1.later bv7);clear bv7 HI q2 q1 r1 r2 hxy';go_wp2_with fail;go_roundw
        case rel=>exact ⟨i,j+1,ao,cap,l,acc,R,some a,dp - 1,by omega,by omega,rfl,by go_num,by go_num,rfl,by have:=HDQ.out;omega,HAL.out,HO7.out,HN.out,HE.out⟩
        case measure=>simp [intOf];omega
    ·by_cases hjm:j < m
     ·obtain ⟨db,hdb,q2⟩:=isrc_at (HSO.out.below HI.out.2.1.below) j hjm;subst hdb;have HY:Hid (O[j]? = some (O.getD j 0)):=getD_some O j (by rw [HLO.out];exact hjm);obtain ⟨y,Hy⟩:∃ y,Hid (O.getD j 0=y):=⟨_,rfl⟩;rw [Hy.out] at q2 HY;have r2:=cell_regrown q2
      have him':¬ (i:Int) < (m:Int):=by omega
      have HNX:Hid (∀ z,I[i]? = some z -> y < z):=fun z hz=>by
       have:=(List.getElem?_eq_some_iff.1 hz).1;rw [HLI.out] at this;omega
      have HDP:=hide (HI.out.2.2.1.deep HGG.out HY.out HNX.out);have hji:=HDP.out.1
      cases s with
      | none=>have:=HI.out.2.2.1.st.1 rfl;omega
      | some a =>
       have HOU:=hide (HI.out.2.2.1.out HGG.out HY.out HNX.out);have HAL:=hide HI.out.1;have HE:=hide HI.out.2.2.2
       have hwr:IntKind.i64.wrap (dp - 1)=dp - 1:=by rw [IntKind.wrap_i64];omega
       by_cases hcl:i=j+1
       ·have HN:=hide (HOU.out.2 hcl).2
        have hdv:dp=1:=by have:=HDQ.out;omega
        subst hdv;clear hcl;go_wp2_with fail;refine wp_region_quiet_below (by kernel_rfl) (by kernel_rfl) ?_
        repeat (with_reducible (refine wpQuiet_step ?_);intro K hK;go_simp;(try rw [if_neg (by unfold undef;simp)]);first | (with_reducible (refine hK _ ?_);clear hK K) | (apply Exists.intro;refine ⟨fun _=>?_,hK _ ?_⟩;(fail);clear hK K))
        with_reducible (refine wpQuiet_nil ?_)
        intro v7 hw';obtain ⟨⟨dq,osq⟩,hw''⟩:=hw'
        have bv7:Below v6.heap.size v6 v7:=by rw [hw''];exact below_regrown v6 dq osq
        clear hw'' dq osq;have HO7:=hide (HI.out.2.1.later bv7);have q7:=(bv7.cell (World.block_lt_of_cell? _ _ q2)).trans q2;clear bv7 HI q2 r2;go_wp2_with (at_builtin;refine (HO7.out.later (below_new v7 _)).append [y] ⟨v7.heap.size,0,none⟩ 1 1 (ilit1 v7 y _ rfl 3) (by have:=HSL.out;omega) rfl (.tmp 88) (.tmp 93) rfl l HAL.out rfl rfl ?_;intro ao8 c8 v8 O8 _ _;have HO8:=hide O8;clear O8);go_roundw
        case rel=>exact ⟨i,j+1,ao8,c8,l+1,acc++[y],R++[⟨a,y - 1⟩],none,0,by omega,by omega,rfl,rfl,by go_num,rfl,by have:=HDQ.out;omega,by rw [List.length_append,HAL.out];rfl,HO8.out,HN.out,by rw [HE.out];simp only [Option.toList_some,Option.toList_none,List.append_nil];exact tn_close R a y⟩
        case measure=>simp [intOf];omega
       ·have hd1:(dp - 1 == 0)=false:=by have:=HDQ.out;simp;omega
        have HN:=hide (HOU.out.1 hcl);go_wp2_with fail;refine wp_region_quiet_below (by kernel_rfl) (by kernel_rfl) ?_
        repeat (with_reducible (refine wpQuiet_step ?_);intro K hK;go_simp;(try rw [if_neg (by unfold undef;simp)]);first | (with_reducible (refine hK _ ?_);clear hK K) | (apply Exists.intro;refine ⟨fun _=>?_,hK _ ?_⟩;(fail);clear hK K))
        with_reducible (refine wpQuiet_nil ?_)
        intro v7 hw';obtain ⟨⟨dq,osq⟩,hw''⟩:=hw'
        have bv7:Below v6.heap.size v6 v7:=by rw [hw''];exact below_regrown v6 dq osq
        clear hw'' dq osq;have HO7:=hide (HI.out.2.1.later bv7);clear bv7 HI q2 r2;go_wp2_with fail;go_roundw
        case rel=>exact ⟨i,j+1,ao,cap,l,acc,R,some a,dp - 1,by omega,by omega,rfl,by go_num,by go_num,rfl,by have:=HDQ.out;omega,HAL.out,HO7.out,HN.out,HE.out⟩
        case measure=>simp [intOf];omega
     ·obtain rfl:i=m:=by omega
      obtain rfl:j=i:=by omega
      have him':¬ (j:Int) < (j:Int):=by omega
      obtain ⟨hs,hN⟩:=HI.out.2.2.1.done HPI.out.1 HPO.out.1 HLI.out HLO.out;subst hs;obtain ⟨S3,f3,_,_⟩:=HI.out.2.1.src;have e3:=HI.out.1;have e4:=HI.out.2.2.2;rw [e3] at S3;simp only [Option.toList_none,List.append_nil] at e4;rw [e4] at S3;have HG:Hid (GivesT w v6 (.returned (.slice ao l cap)) (zipR Lo Hi)):=⟨ao,l,cap,R,rfl,S3,fun ad h=>Nat.le_trans HB2.out.size (f3 ad h),HB2.out.trans (HI.out.2.1.below.mono HB2.out.size),hN⟩;clear S3 f3 e3 e4 hN HI;go_wp2_with fail;go_ret;exact HG.out
end
section
open Go.RowKit

def slv (s:Sl):Value:=.slice s.ao s.n s.cap
def sl0:Sl:=⟨none,0,0,[]⟩
def SA (F:Nat -> Sl):Array Value:=((List.range 16).map fun r=>slv (F r)).toArray
abbrev SAv (F:Nat -> Sl):Value:=.agg (SA F)
theorem SA_size (F:Nat -> Sl):(SA F).size=16:=by simp [SA]
theorem SA_at (F:Nat -> Sl) (t:Nat) (h:t < 16):(SA F)[t]? = some (slv (F t)):=by simp [SA,h]
theorem SA_one (F:Nat -> Sl):∀ v∈(SA F).toList,v.oneCell'=true:=by
 intro v hv;simp only [SA,List.mem_map] at hv;obtain ⟨r,_,rfl⟩:=hv;rfl
theorem cells_SAv (F:Nat -> Sl):(SAv F).cells=SA F:=by simp [Value.cells]
theorem zeros_SA:(#[.slice none 0 0,.slice none 0 0,.slice none 0 0,.slice none 0 0,.slice none 0 0,.slice none 0 0,.slice none 0 0,.slice none 0 0,.slice none 0 0,.slice none 0 0,.slice none 0 0,.slice none 0 0,.slice none 0 0,.slice none 0 0,.slice none 0 0,.slice none 0 0]:Array Value)=SA (fun _=>sl0):=rfl
def Sets (w:World) (g:Nat) (F:Nat -> Sl):Prop:=w.heap[g]? = some (.cells (SA F) 69 (0,0))
def Fset (F:Nat -> Sl) (k:Nat) (s:Sl):Nat -> Sl:=fun r=>if r=k then s else F r
theorem Fset_same (F:Nat -> Sl) (k:Nat) (s:Sl):Fset F k s k=s:=by simp [Fset]
theorem Fset_other (F:Nat -> Sl) (k r:Nat) (s:Sl) (h:r≠k):Fset F k s r=F r:=by simp [Fset,h]
section
variable {w w' : World} {g : Nat} {F : Nat -> Sl}
theorem Sets.lt (h:Sets w g F):g < w.heap.size:=(Array.getElem?_eq_some_iff.1 h).1
theorem Sets.cell (h:Sets w g F) (t:Nat) (ht:t < 16):w.cell? ⟨g,t,none⟩=some (.slice (F t).ao (F t).n (F t).cap):=by
 unfold Sets at h;simp [World.cell?,h,SA_at F t ht,slv]
theorem Sets.frozen (h:Sets w g F) (t:Nat):w.frozen? ⟨g,t,none⟩=false:=by unfold Sets at h;simp [World.frozen?,h]
theorem SA_set (F:Nat -> Sl) (t:Nat) (s:Sl):(SA F).setIfInBounds t (slv s)=SA (Fset F t s):=by
 apply Array.ext
 ·simp [SA]
 ·intro i h1 h2;simp [SA] at h2;by_cases h:t=i
  ·subst h;simp [SA,Fset]
  ·have:¬ i=t:=fun e=>h e.symm;simp [SA,Fset,h,this]
theorem Sets.set (h:Sets w g F) (t:Nat) (s:Sl) (v:Value) (hv:v=slv s):Sets (w.setCell ⟨g,t,none⟩ v) g (Fset F t s):=by
 subst hv;unfold Sets at h ⊢;simp [World.setCell,h,Array.getElem?_modify,<- SA_set]
theorem Sets.below (h:Sets w g F) (hb:Below w.heap.size w w'):Sets w' g F:=(hb.block g h.lt).trans h
theorem sets_new (w:World) (F:Nat -> Sl):Sets (w.alloc (.cells (SA F) 69)) w.heap.size F:=by unfold Sets;rw [heap_alloc_new]
end
def ldA (v:Value):Sem Value:=Instr.loadAt 69 v
theorem ldA_eq (v:Value):Instr.loadAt 69 v=ldA v:=rfl
def stA (p v:Value):Sem Unit:=Instr.storeAt 69 p v
theorem stA_eq (p v:Value):Instr.storeAt 69 p v=stA p v:=rfl
theorem sizeA:(Tryz.prog.info? 69).map (·.size)=some 16:=by kernel_rfl
theorem run_lvA {w:World} {g:Nat} {F:Nat -> Sl} (A:Sets w g F):(loadVar 69 ⟨g,0,none⟩).run Tryz.prog w = .ok (SAv F) w:=by
 have hl:=run_loadCells_list (P:=Tryz.prog) (w:=w) ⟨g,0,none⟩ (SA F).toList (fun j v hv=>by
  rw [Addr.add_lit,Nat.zero_add]
  have hj:j < 16:=by have:=(List.getElem?_eq_some_iff.1 hv).1;simpa [SA] using this
  rw [A.cell j hj];have:=SA_at F j hj;simp only [Array.getElem?_toList] at hv
  rw [this] at hv;exact hv)
 cases hq:Tryz.prog.info? 69 with
 | none=>have:=sizeA;simp [hq] at this
 | some x =>
  have hs:x.size=16:=by have:=sizeA;simpa [hq] using this
  have hagg:(isAgg 69).run Tryz.prog w = .ok true w:=by
   unfold isAgg;rw [Sem.run_bind,run_underlying Tryz.underlying69 w];rfl
  have e:(SA F).toList.length=16:=by simp [SA]
  rw [e] at hl;simp [loadVar,Sem.run_bind,hagg,sizeOf,typeInfo,hq,hs,hl,SAv]
theorem run_ldA {w:World} {g:Nat} {F:Nat -> Sl} (A:Sets w g F):(ldA (.pointer (some ⟨g,0,none⟩))).run Tryz.prog w = .ok (SAv F) w:=by
 unfold ldA;simp only [Instr.loadAt,Instr.sureAddr,Sem.run_bind,Sem.run_pure,Result.andThen];exact run_lvA A
theorem run_stA {w:World} {g:Nat} {F F':Nat -> Sl} (A:Sets w g F):(stA (.pointer (some ⟨g,0,none⟩)) (SAv F')).run Tryz.prog w = .ok () (w.setRow g (SA F')):=by
 unfold stA;have h:=run_storeCells_from (P:=Tryz.prog) g 69 (SA F').toList 0 (SA F) w A (by simp [SA]) (SA_one F')
 cases hq:Tryz.prog.info? 69 with
 | none=>have:=sizeA;simp [hq] at this
 | some x =>
  have hs:x.size=16:=by have:=sizeA;simpa [hq] using this
  simp only [Instr.storeAt,Instr.sureAddr,Sem.run_bind,Sem.run_pure,Result.andThen,storeVar,sizeOf,typeInfo,cells_SAv,SA_size];simp at h;simp [h,hq,hs]
theorem Sets.setRow {w:World} {g:Nat} {F F':Nat -> Sl} (A:Sets w g F):Sets (w.setRow g (SA F')) g F':=setRow_heap w g _ _ _ _ A
theorem resA {fn:Func} {p:Tmp} {w:World} {g:Nat} {F:Nat -> Sl} (h:fn.results=#[.cell p 69]) {tmps:Array Value} (hp:tmps.getD p undef = .pointer (some ⟨g,0,none⟩)) (A:Sets w g F) :
  (results fn tmps).run Tryz.prog w = .ok (SAv F) w:=by
 have hl:=run_lvA A;simp only [results,h];rw [Array.getD_eq_getD_getElem?] at hp;simp [hp,asAddr,hl]

def blk (s:Sl):Option Nat:=s.ao.map (·.block)
theorem ownBlock_slv (s:Sl):(Value.slice s.ao s.n s.cap).ownBlock=blk s:=by
 cases s with | mk ao n c L=>cases ao <;> rfl
structure OwnA (B:Nat) (W:World) (F:Nat -> Sl):Prop where
 own:∀ r,r < 16 -> W.ownsRow B 105 2 (.slice (F r).ao (F r).n (F r).cap) (F r).n (rcs (F r).L)
 apart:∀ r s,r < 16 -> s < 16 -> r≠s -> ∀ k,blk (F r)=some k -> blk (F s)≠some k
def Off (F:Nat -> Sl) (q:Nat):Prop:=∀ r,r < 16 -> blk (F r)≠some q
theorem OwnA.nil (B:Nat) (W:World):OwnA B W (fun _=>sl0):=⟨fun _ _=>World.ownsRow_nil _ _ _ _,fun _ _ _ _ _ k h=>by cases h⟩
theorem OwnA.lt {B:Nat} {W:World} {F:Nat -> Sl} (O:OwnA B W F) {r k:Nat} (hr:r < 16) (h:blk (F r)=some k):B <= k/\k < W.heap.size:=(O.own r hr).lt k (by rw [ownBlock_slv];exact h)
theorem OwnA.off {B:Nat} {W:World} {F:Nat -> Sl} (O:OwnA B W F) (q:Nat) (h:q < B∨W.heap.size <= q):Off F q:=fun r hr e=>by have:=O.lt hr e;omega
theorem OwnA.kept {B:Nat} {W W':World} {F:Nat -> Sl} (O:OwnA B W F) (h:∀ q,q < W.heap.size -> ¬ Off F q -> W'.heap[q]? = W.heap[q]?):OwnA B W' F:=by
 refine ⟨fun r hr=>⟨(O.own r hr).1,?_⟩,O.apart⟩;rcases (O.own r hr).2 with h0 | ⟨g,cap2,cur,hv,hbg,hgg,rr⟩
 ·exact Or.inl h0
 ·refine Or.inr ⟨g,cap2,cur,hv,hbg,(h g (Array.getElem?_eq_some_iff.1 hgg).1 (fun ho=>ho r hr ?_)).trans hgg,rr⟩;rw [<- ownBlock_slv,hv];rfl
theorem OwnA.below {B:Nat} {W W':World} {F:Nat -> Sl} (O:OwnA B W F) (hb:Below W.heap.size W W'):OwnA B W' F:=O.kept fun q hq _=>hb.block q hq
theorem OwnA.len {B:Nat} {W:World} {F:Nat -> Sl} (O:OwnA B W F) {r:Nat} (hr:r < 16):(F r).L.length=(F r).n:=by
 have:=(O.own r hr).1;rw [rcs_length] at this;omega
theorem OwnA.src {B:Nat} {W:World} {F:Nat -> Sl} (O:OwnA B W F) (hB:B <= W.heap.size) {r:Nat} (hr:r < 16) (hl:(F r).n <= 8796093022207):RSrc W (F r).ao (F r).n (F r).cap (F r).L:=by
 have h:=O.own r hr;have e:=O.len hr;rw [<- e] at h;have:=(OwnR.src (B0:=0) (B:=B) (w:=W) ⟨h,Below.refl _ _,hB,Nat.zero_le _⟩ (by omega)).1;rw [e] at this;exact this
theorem OwnA.grow {B:Nat} {W:World} {F:Nat -> Sl} (O:OwnA B W F) (hB:B <= W.heap.size) (k:Nat) (hk:k < 16) (e:Rn) (ad:Addr) (h0:W.cell? (ad.add 0)=some (.int .i64 e.lo)) (h1:W.cell? (ad.add 1)=some (.int .i64 e.hi)) (ty:TypeId) (hlen:(F k).n < 8796093022207) :
  ∃ g cap2 w2,(Builtin.append_ #[67,67] ty #[.slice (F k).ao (F k).n (F k).cap,.slice (some ad) 1 1]).run Tryz.prog W = .ok (.slice (some ⟨g,0,none⟩) ((F k).n+1) cap2) w2 /\
   OwnA B w2 (Fset F k ⟨some ⟨g,0,none⟩,(F k).n+1,cap2,(F k).L++[e]⟩) /\
   (∀ q,q < W.heap.size -> Off F q -> w2.heap[q]? = W.heap[q]? /\ Off (Fset F k ⟨some ⟨g,0,none⟩,(F k).n+1,cap2,(F k).L++[e]⟩) q)/\W.heap.size <= w2.heap.size/\(∀ n0 w,n0 <= B -> Below n0 w W -> Below n0 w w2):=by
 obtain ⟨i0,hi0,hz0,hz1,hz2⟩:=info_parts infoR
 obtain ⟨v',w2,hrun,hown,hgrow,_,hat⟩:=run_append_own_at (P:=Tryz.prog) W B 67 ty 105 i0 (.agg #[.int .i64 0,.int .i64 0]) 2 16 Tryz.underlying67 hi0 hz0 hz1 hz2 rfl (by decide) (.slice (F k).ao (F k).n (F k).cap) (F k).n (rcs (F k).L) (O.own k hk) ad 1 1 (RC e).toList rfl
  (fun j u hj=>by
   match j,hj with
   | 0,hj=>cases hj;exact h0
   | 1,hj=>cases hj;exact h1
   | j+2,hj=>simp [RC] at hj)
  (fun u hu=>RC_one e u hu) (by unfold maxLen;omega) (by omega) hB
 rcases hown.2 with ⟨h0,h00⟩ | ⟨g,cap2,cur,hv,hbg,hgg,hnc,hcm,hcsz,htake⟩
 ·omega
 ·subst hv
  rw [ownBlock_slv] at hgrow hat
  have hat':blk (F k)=some g∨g=W.heap.size:=by
   rcases hat with h | h
   ·left;rw [<- h];rfl
   ·right;simp [Value.ownBlock] at h;exact h
  have hoff:∀ q,q < W.heap.size -> Off F q -> Off (Fset F k ⟨some ⟨g,0,none⟩,(F k).n+1,cap2,(F k).L++[e]⟩) q:=by
   intro q hq ho r hr;by_cases hrk:r=k
   ·subst hrk;rw [Fset_same];intro h;have hg:g=q:=Option.some.inj h;rcases hat' with h2 | h2
    ·exact ho r hr (by rw [h2,hg])
    ·omega
   ·rw [Fset_other _ _ _ _ hrk];exact ho r hr
  refine ⟨g,cap2,w2,hrun,⟨fun r hr=>?_,fun r s hr hs hrs q hq=>?_⟩,fun q hq ho=>⟨hgrow.block q hq (fun e=>ho k hk e.symm),hoff q hq ho⟩,hgrow.size,fun n0 w hn hb=>hb.grown hgrow (by omega) (fun q hq=>by have:=(O.lt hk hq).1;omega)⟩
  ·by_cases hrk:r=k
   ·subst hrk;rw [Fset_same]
    show w2.ownsRow B _ 2 (.slice (some ⟨g,0,none⟩) ((F r).n+1) cap2) ((F r).n+1) (rcs ((F r).L++[e]))
    rw [rcs_append,rcs_one];exact hown
   ·rw [Fset_other _ _ _ _ hrk];refine ⟨(O.own r hr).1,?_⟩;rcases (O.own r hr).2 with h0 | ⟨g2,cap3,cur2,hv,hbg2,hgg2,rr⟩
    ·exact Or.inl h0
    ·have hb2:blk (F r)=some g2:=by rw [<- ownBlock_slv,hv];rfl
     exact Or.inr ⟨g2,cap3,cur2,hv,hbg2,(hgrow.block g2 (O.lt hr hb2).2 (fun e=>O.apart r k hr hk hrk g2 hb2 e.symm)).trans hgg2,rr⟩
  ·have key:∀ x,x < 16 -> x≠k -> blk (F x)≠some g:=by
    intro x hx hxk h;rcases hat' with h2 | h2
    ·exact O.apart x k hx hk hxk g h h2
    ·have:=(O.lt hx h).2;omega
   by_cases hrk:r=k
   ·subst hrk;rw [Fset_same] at hq;rw [Fset_other _ _ _ _ (fun h=>hrs h.symm)];have hg:g=q:=Option.some.inj hq;rw [<- hg];exact key s hs (fun h=>hrs h.symm)
   ·rw [Fset_other _ _ _ _ hrk] at hq;by_cases hsk:s=k
    ·subst hsk;rw [Fset_same];intro h;have hg:g=q:=Option.some.inj h;rw [<- hg] at hq;exact key r hr hrk hq
    ·rw [Fset_other _ _ _ _ hsk];exact O.apart r s hr hs hrs q hq
theorem OwnA.append {B:Nat} {W:World} {F:Nat -> Sl} (O:OwnA B W F) (hB:B <= W.heap.size) (k:Nat) (hk:k < 16) (e:Rn) (C:Array Value) (hC:C=RC e) (hlen:(F k).n < 8796093022207)
  {ops:Array Oper} {rest:List Oper} {o:Oper} {a:Act} {Q:Exit -> Act -> World -> Prop} (hgd:o.guard=none) (s x:Operand) (ho:o.op = .call { callee:=.builtin .append,args:=#[s,x],argTypes:=#[67,67] })
  (ao:Option Addr) (n cap:Nat) (hf:(F k).ao=ao/\(F k).n=n/\(F k).cap=cap) (hs:a.eval s = .slice ao n cap) (hx:a.eval x = .slice (some ⟨W.heap.size,0,none⟩) 1 1)
  (hK:∀ (g cap2:Nat) (w2:World),OwnA B w2 (Fset F k ⟨some ⟨g,0,none⟩,n+1,cap2,(F k).L++[e]⟩) -> (∀ q,q < W.heap.size -> Off F q -> w2.heap[q]? = W.heap[q]? /\ Off (Fset F k ⟨some ⟨g,0,none⟩,n+1,cap2,(F k).L++[e]⟩) q) -> W.heap.size < w2.heap.size -> (∀ n0 w,n0 <= B -> Below n0 w W -> Below n0 w w2) -> wpList Tryz.prog ops Q rest (a.put o.dst (.slice (some ⟨g,0,none⟩) (n+1) cap2)) w2) :
  wpList Tryz.prog ops Q (o :: rest) a (W.alloc (.cells C 105)):=by
 subst hC;obtain ⟨rfl,rfl,rfl⟩:=hf;have hO:OwnA B (W.alloc (.cells (RC e) 105)) F:=O.below (below_new W _)
 have c:∀ t,(W.alloc (.cells (RC e) 105)).cell? ((⟨W.heap.size,0,none⟩:Addr).add t)=(RC e)[t]?:=fun t=>by rw [Addr.add_lit,Nat.zero_add,World.cell?_alloc_new]
 obtain ⟨g,cap2,w2,hrun,h1,h2,h3,h4⟩:=hO.grow (by simp;omega) k hk e ⟨W.heap.size,0,none⟩ ((c 0).trans rfl) ((c 1).trans rfl) o.type hlen;refine wpList_plain hgd fun K hK'=>?_;unfold Oper.wp execOp;simp only [ho,resolve,invoke,builtin,Sem.run_bind,Sem.run_pure,Result.andThen_ok,List.map_toArray,List.map_cons,List.map_nil,hs,hx,hrun];simp only [World.size_alloc] at h2 h3;refine hK' _ _ (hK g cap2 w2 h1 (fun q hq ho=>?_) (by omega) (fun n0 w hn hb=>h4 n0 w hn (hb.alloc (by omega) _)));have:=h2 q (by omega) ho;exact ⟨this.1.trans (Below.heap_alloc _ _ _ hq),this.2⟩
theorem OwnA.step {B:Nat} {W:World} {F:Nat -> Sl} (O:OwnA B W F) (hB:B <= W.heap.size) (k:Nat) (hk:k < 16) (e:Rn) (C:Array Value) (hC:C=RC e) (hlen:(F k).n < 8796093022207)
  {ops:Array Oper} {o:Oper} {a:Act} {K:Act -> World -> Prop} {Q:Exit -> Act -> World -> Prop} {E:Prop} (hgd:o.guard=none) (s x:Operand) (ho:o.op = .call { callee:=.builtin .append,args:=#[s,x],argTypes:=#[67,67] })
  (ao:Option Addr) (n cap:Nat) (hf:(F k).ao=ao/\(F k).n=n/\(F k).cap=cap) (hs:a.eval s = .slice ao n cap) (g0:Nat) (hg0:W.heap.size=g0) (hx:a.eval x = .slice (some ⟨g0,0,none⟩) 1 1)
  (hK:∀ (g cap2:Nat) (w2:World),OwnA B w2 (Fset F k ⟨some ⟨g,0,none⟩,n+1,cap2,(F k).L++[e]⟩) -> (∀ q,q < W.heap.size -> Off F q -> w2.heap[q]? = W.heap[q]? /\ Off (Fset F k ⟨some ⟨g,0,none⟩,n+1,cap2,(F k).L++[e]⟩) q) -> W.heap.size < w2.heap.size -> (∀ n0 w,n0 <= B -> Below n0 w W -> Below n0 w w2) -> K (a.put o.dst (.slice (some ⟨g,0,none⟩) (n+1) cap2)) w2) :
  if Region.wanted o (yielded ops a.tmps)=true then Oper.wp Tryz.prog o a (W.alloc (.cells C 105)).drew K Q else E:=by
 have hw:Region.wanted o (yielded ops a.tmps)=true:=by simp [Region.wanted,hgd]
 rw [if_pos hw];subst hC hg0;obtain ⟨rfl,rfl,rfl⟩:=hf;have hO:OwnA B (W.alloc (.cells (RC e) 105)).drew F:=(O.below (below_new W _)).below (below_drew1 _)
 have c:∀ t,(W.alloc (.cells (RC e) 105)).drew.cell? ((⟨W.heap.size,0,none⟩:Addr).add t)=(RC e)[t]?:=fun t=>by
  rw [Addr.add_lit,Nat.zero_add]
  show (W.alloc _).cell? _=_
  rw [World.cell?_alloc_new]
 have hz:(W.alloc (.cells (RC e) 105)).drew.heap.size=W.heap.size+1:=by show (W.alloc _).heap.size=_;simp
 obtain ⟨g,cap2,w2,hrun,h1,h2,h3,h4⟩:=hO.grow (by omega) k hk e ⟨W.heap.size,0,none⟩ ((c 0).trans rfl) ((c 1).trans rfl) o.type hlen;unfold Oper.wp;simp [execOp,ho,resolve,invoke,builtin,hs,hx,hrun,Result.andThen];rw [hz] at h2 h3;refine hK g cap2 w2 h1 (fun q hq ho=>?_) (by omega) (fun n0 w hn hb=>h4 n0 w hn ((hb.alloc (by omega) _).trans ((below_drew1 _).mono (by simp;omega))));have:=h2 q (by omega) ho;exact ⟨this.1.trans (Below.heap_alloc _ _ _ hq),this.2⟩
end
section
open Go.RowKit

def vecPart (z:Int):List Rn:=if 0 < z then [⟨1,z⟩] else []
def cloudPart (L:List Sn) (r:Nat):List Rn:=(L.filter (fun c=>decide (c.rep=(r:Int)))).map (fun c=>⟨c.lo,c.hi⟩)
def runsAt (p:Pst) (r:Nat):List Rn:=vecPart (V.at' p.vec r)++cloudPart p.cloud r
def runsOf:List Pv -> Nat -> List Rn
 | [],_=>[]
 | p :: X,r=>runsAt p.P r++runsOf X r
def wt:List Pv -> Nat
 | []=>0
 | p :: X=>1+p.P.cloud.length+wt X
theorem runsOf_append (X Y:List Pv) (r:Nat):runsOf (X++Y) r=runsOf X r++runsOf Y r:=by
 induction X with
 | nil=>rfl
 | cons p X ih=>simp only [List.cons_append,runsOf,ih,List.append_assoc]
theorem runsOf_one (p:Pv) (r:Nat):runsOf [p] r=runsAt p.P r:=by simp [runsOf]
theorem wt_append (X Y:List Pv):wt (X++Y)=wt X+wt Y:=by
 induction X with
 | nil=>simp [wt]
 | cons p X ih=>simp only [List.cons_append,wt,ih];omega
theorem vecPart_len (z:Int):(vecPart z).length <= 1:=by unfold vecPart;split <;> simp
theorem cloudPart_len (L:List Sn) (r:Nat):(cloudPart L r).length <= L.length:=by unfold cloudPart;rw [List.length_map];exact List.length_filter_le _ _
theorem cloudPart_snoc (L:List Sn) (c:Sn) (r:Nat):cloudPart (L++[c]) r=if c.rep=(r:Int) then cloudPart L r++[⟨c.lo,c.hi⟩] else cloudPart L r:=by
 unfold cloudPart;by_cases h:c.rep=(r:Int)
 ·simp [h]
 ·simp [h]
theorem runsOf_len (X:List Pv) (r:Nat):(runsOf X r).length <= wt X:=by
 induction X with
 | nil=>simp [runsOf]
 | cons p X ih =>
  have h1:=vecPart_len (V.at' p.P.vec r);have h2:=cloudPart_len p.P.cloud r;simp only [runsOf,runsAt,wt,List.length_append];omega
theorem take_onep {X:List Pv} {k:Nat} {p:Pv} (hs:X[k]? = some p):X.take (k+1)=X.take k++[p]:=by
 rw [List.take_add_one,hs];rfl
theorem wt_at {X:List Pv} {k:Nat} {p:Pv} (hs:X[k]? = some p):wt (X.take k)+(1+p.P.cloud.length) <= wt X:=by
 have h:=congrArg wt (List.take_append_drop (k+1) X);rw [wt_append,take_onep hs,wt_append] at h;simp only [wt] at h;omega
structure SInv (w W:World) (F:Nat -> Sl) (G:Nat -> List Rn):Prop where
 z:Sets W w.heap.size (fun _=>sl0)
 s:Sets W (w.heap.size+1) F
 o:OwnA (w.heap.size+2) W F
 l:∀ r,r < 16 -> (F r).L=G r
 b:Below w.heap.size w W
 h:w.heap.size+2 <= W.heap.size
theorem SInv.on {w W W':World} {F:Nat -> Sl} {G:Nat -> List Rn} (I:SInv w W F G) (hb:Below W.heap.size W W'):SInv w W' F G:=
 ⟨I.z.below hb,I.s.below hb,I.o.below hb,I.l,I.b.trans (hb.mono I.b.size),Nat.le_trans I.h hb.size⟩
theorem SInv.congr {w W:World} {F:Nat -> Sl} {G G':Nat -> List Rn} (I:SInv w W F G) (h:∀ r,r < 16 -> G r=G' r):SInv w W F G':=
 ⟨I.z,I.s,I.o,fun r hr=>(I.l r hr).trans (h r hr),I.b,I.h⟩
theorem SInv.len {w W:World} {F:Nat -> Sl} {G:Nat -> List Rn} (I:SInv w W F G) {r:Nat} (hr:r < 16):(F r).n=(G r).length:=by rw [<- I.l r hr,I.o.len hr]
theorem SInv.off {w W:World} {F:Nat -> Sl} {G:Nat -> List Rn} (I:SInv w W F G) (q:Nat) (h:q < w.heap.size+2∨W.heap.size <= q):Off F q:=I.o.off q h
theorem SInv.mid {w W w2:World} {F F':Nat -> Sl} {G:Nat -> List Rn} (I:SInv w W F G) (h2:∀ q,q < W.heap.size -> Off F q -> w2.heap[q]? = W.heap[q]? /\ Off F' q):Sets w2 (w.heap.size+1) F:=
 ((h2 _ (by have:=I.h;omega) (I.off _ (Or.inl (by omega)))).1).trans I.s
theorem SInv.push {w W w2:World} {F:Nat -> Sl} {G:Nat -> List Rn} (I:SInv w W F G) (k:Nat) (hk:k < 16) (e:Rn) (n cap2 g:Nat)
  (O2:OwnA (w.heap.size+2) w2 (Fset F k ⟨some ⟨g,0,none⟩,n+1,cap2,(F k).L++[e]⟩)) (h2:∀ q,q < W.heap.size -> Off F q -> w2.heap[q]? = W.heap[q]? /\ Off (Fset F k ⟨some ⟨g,0,none⟩,n+1,cap2,(F k).L++[e]⟩) q) (h3:W.heap.size < w2.heap.size) (h4:∀ n0 w0,n0 <= w.heap.size+2 -> Below n0 w0 W -> Below n0 w0 w2) (v:Value) (hv:v = .slice (some ⟨g,0,none⟩) (n+1) cap2) :
  SInv w (w2.setCell ⟨w.heap.size+1,k,none⟩ v) (Fset F k ⟨some ⟨g,0,none⟩,n+1,cap2,(F k).L++[e]⟩) (fun r=>if r=k then G r++[e] else G r):=by
 have hh:=I.h
 have other:∀ q,q≠w.heap.size+1 -> (w2.setCell ⟨w.heap.size+1,k,none⟩ v).heap[q]? = w2.heap[q]?:=fun q hq=>by
  simp [World.setCell,Array.getElem?_modify,show ¬ w.heap.size+1=q by omega]
 refine ⟨?_,(I.mid h2).set k _ v hv,O2.kept (fun q hq hno=>other q (fun e=>hno ?_)),fun r hr=>?_,?_,?_⟩
 ·exact (other _ (by omega)).trans (((h2 _ (by omega) (I.off _ (Or.inl (by omega)))).1).trans I.z)
 ·rw [e];exact O2.off _ (Or.inl (by omega))
 ·by_cases h:r=k
  ·subst h;rw [Fset_same,if_pos rfl,<- I.l r hr]
  ·rw [Fset_other _ _ _ _ h,if_neg h,<- I.l r hr]
 ·exact V.below_setCell (h4 _ _ (by omega) I.b) (by simp)
 ·have:(w2.setCell ⟨w.heap.size+1,k,none⟩ v).heap.size=w2.heap.size:=by simp [World.setCell]
  omega
theorem keep_off {W w2:World} {F F':Nat -> Sl} {q B k:Nat} {v:Value} (h2:∀ q,q < W.heap.size -> Off F q -> w2.heap[q]? = W.heap[q]? /\ Off F' q) (hq:q < W.heap.size) (ho:Off F q) (hne:B≠q):(w2.setCell ⟨B,k,none⟩ v).heap[q]? = W.heap[q]? /\ Off F' q:=by
 refine ⟨?_,(h2 q hq ho).2⟩;rw [<- (h2 q hq ho).1];simp [World.setCell,Array.getElem?_modify,hne]
theorem vec_step {A:Nat -> List Rn} {f:Nat -> Int} {j:Nat} {z:Int} (hz:f j=z) (h0:0 < z) (r:Nat):(if r=j then (A r++(if r < j then vecPart (f r) else []))++[⟨1,z⟩] else A r++(if r < j then vecPart (f r) else []))=A r++(if r < j+1 then vecPart (f r) else []):=by
 by_cases h:r=j
 ·subst h;simp [vecPart,hz,h0]
 ·by_cases h':r < j
  ·simp [h,h',show r < j+1 by omega]
  ·simp [h,h',show ¬ r < j+1 by omega]
theorem vec_skip {A:Nat -> List Rn} {f:Nat -> Int} {j:Nat} {z:Int} (hz:f j=z) (h0:¬ 0 < z) (r:Nat):A r++(if r < j then vecPart (f r) else [])=A r++(if r < j+1 then vecPart (f r) else []):=by
 by_cases h:r=j
 ·subst h;simp [vecPart,hz,h0]
 ·by_cases h':r < j
  ·simp [h',show r < j+1 by omega]
  ·simp [h',show ¬ r < j+1 by omega]
theorem cloud_step {A:Nat -> List Rn} {L:List Sn} {c:Sn} {q:Nat} (hc:c.rep=(q:Int)) (r:Nat):(if r=q then (A r++cloudPart L r)++[⟨c.lo,c.hi⟩] else A r++cloudPart L r)=A r++cloudPart (L++[c]) r:=by
 rw [cloudPart_snoc];by_cases h:r=q
 ·subst h;simp [hc]
 ·have:¬ c.rep=(r:Int):=by rw [hc];omega
  simp [h,this]
theorem cloud_skip {A:Nat -> List Rn} {L:List Sn} {c:Sn} (hc:V.isR c.rep=false) (r:Nat) (hr:r < 16):A r++cloudPart L r=A r++cloudPart (L++[c]) r:=by
 rw [cloudPart_snoc]
 have:¬ c.rep=(r:Int):=by
  intro e;rw [e] at hc;simp [V.isR] at hc;omega
 simp [this]
structure RowsIn (lo:Nat) (W:World) (F:Nat -> Sl) (G:Nat -> List Rn):Prop where
 src:∀ r,r < 16 -> RSrc W (F r).ao (F r).n (F r).cap (F r).L
 eq:∀ r,r < 16 -> (F r).L=G r
 lo:∀ r,r < 16 -> ∀ ad,(F r).ao=some ad -> lo <= ad.block
 hi:∀ r,r < 16 -> ∀ ad,(F r).ao=some ad -> ad.block < W.heap.size
theorem rsrc_off {w w':World} {ao:Option Addr} {n c:Nat} {L:List Rn} (h:RSrc w ao n c L) (hk:∀ ad,ao=some ad -> w'.heap[ad.block]? = w.heap[ad.block]?):RSrc w' ao n c L:=by
 refine ⟨h.len,h.nil,fun ad ha t ht=>?_,h.cap,h.room,h.big⟩;have A:=h.cell ad ha t ht
 have e:∀ m,w'.cell? (ad.add m)=w.cell? (ad.add m):=fun m=>by unfold World.cell?;rw [block_add,hk ad ha]
 exact ⟨by rw [e];exact A.c0,by have:=A.c1;rw [add_add] at this ⊢;rw [e];exact this⟩
theorem RowsIn.below {lo:Nat} {W W':World} {F:Nat -> Sl} {G:Nat -> List Rn} (h:RowsIn lo W F G) (hb:Below W.heap.size W W'):RowsIn lo W' F G:=
 ⟨fun r hr=>(h.src r hr).below hb,h.eq,h.lo,fun r hr ad e=>Nat.lt_of_lt_of_le (h.hi r hr ad e) hb.size⟩
def FarS (F:Nat -> Sl) (g:Nat):Prop:=∀ r,r < 16 -> ∀ ad,(F r).ao=some ad -> ad.block≠g
theorem RowsIn.off {lo:Nat} {W:World} {F:Nat -> Sl} {G:Nat -> List Rn} (h:RowsIn lo W F G) {g:Nat} (hg:FarS F g) (cs:Array Value):RowsIn lo (W.setRow g cs) F G:=
 ⟨fun r hr=>rsrc_off (h.src r hr) (fun ad e=>setRow_other _ _ _ _ (hg r hr ad e)),h.eq,h.lo,fun r hr ad e=>by have:=h.hi r hr ad e;simpa [World.setRow] using this⟩
def GivesA (w w':World) (e:Ending) (G:Nat -> List Rn):Prop:=∃ F,e = .returned (SAv F)/\RowsIn w.heap.size w' F G/\Below w.heap.size w w'
end
end Go.Proofs.YtaphmhbmhcahaabGreat
