/- QSo -/
import Derived.Test.YtjffpimfngdggaaGreatTk
import Derived.Test.YtjffpimfngdggaaGreatFf00
set_option maxRecDepth 100000
set_option maxHeartbeats 4000000
namespace Go.Proofs.YtjffpimfngdggaaGreat
open Go.RowKit
attribute [local go_sem ↓] V.yw
def oX (w w':World) (e:Ending) (n:Nat) (P:List Int -> Prop):Prop:=∃ ao c L,e = .returned (.slice ao n c)/\V.Src w' ao n c L/\n <= c/\c <= maxLen/\(∀ ad,ao=some ad -> w.heap.size <= ad.block)/\Below w.heap.size w w'/\P L
theorem zfh (w:World) (n:Nat) (hn:n <= 17592186044415):∃ C:Array Value,(V.rj (.int .i64 0) (.int .i64 (n:Int))).run Tryz.prog w = .ok (.slice (some ⟨w.heap.size,0,none⟩) 0 n) (w.alloc (.cells C 3))/\C.size=n * 1:=by
 obtain ⟨i0,hi,cY,dw,eI⟩:=info_parts nr;have h:=run_make (P:=Tryz.prog) w 23 3 i0 (.int .i64 0) Tryz.underlying23 hi cY .i64 .i64 0 (n:Int) (by omega) (by omega) (by rw [eI];omega) (by omega);rw [dw,Int.toNat_natCast,Nat.mul_one] at h;refine ⟨_,h,?_⟩;simp [madeCells]
theorem y8:∀ (n:Nat) (ao:Option Addr) (c:Nat) (L:List Int) (w:World),V.Src w ao n c L -> n <= c -> c <= maxLen -> n <= 17592186044415 ->
  Calls Tryz.prog 218 #[.slice ao n c] w fun e w'=>oX w w' e n (fun M=>M.Perm L/\M.Pairwise (· <= ·)):=by
 intro n
 induction n using Nat.strongRecOn with
 | ind n ih =>
  intro ao c L w hS hnc fS hn;have HS:=hide hS;have HL:Hid (L.length=n):=hS.1;have HC:=hide (And.intro hnc fS);have GM:=hide ih;clear hS ih hnc fS;by_cases h2:n < 2
  ·have JE:(n:Int) < 2:=by omega
   have IF:Hid (L.Perm L/\L.Pairwise (· <= ·)):=⟨List.Perm.refl _,za8 (by rw [HL.out];exact h2)⟩;have HO:=hide (dy.made w #[] 0 rfl (by unfold maxLen;omega));have dg:=hide (HS.below (ze w (.cells #[] 3)));go_enter Tryz.func218,Tryz.ntmps218;go_wp2_with (at_builtin;refine HO.appendS L ao n c dg.out (by simp only [List.length_nil];omega) rfl (.tmp 11) (.tmp 12) rfl 0 rfl rfl rfl ?_;intro ao3 c3 w3 O3;rw [List.nil_append] at O3;have nN:=hide O3;clear O3);obtain ⟨S3,f3,g3,m3⟩:=nN.src;rw [HL.out] at S3 g3;have HG:Hid (oX w w3 (.returned (.slice ao3 n c3)) n (fun M=>M.Perm L/\M.Pairwise (· <= ·))):=⟨ao3,c3,L,rfl,S3,g3,m3,f3,nN.below,IF.out⟩;clear S3 f3 g3 m3;go_ret;exact HG.out
  ·obtain ⟨ad,cU,_⟩:=qy HS.out 0 (by omega);subst cU
   have JE:¬ (n:Int) < 2:=by omega
   have iU:n / 2 <= n:=by omega
   have K9:n / 2 <= c:=by have:=HC.1;omega
   have IX:¬ c=n / 2:=by have:=HC.1;omega
   go_enter Tryz.func218,Tryz.ntmps218;go_wp2_with fail;refine (GM.out (n / 2) (by omega) (some ad) c (L.take (n / 2)) w (zgp HS.out (n / 2) iU) K9 HC.2 (by omega)).mono ?_;rintro e w1 ⟨ao1,c1,A,rfl,S1,g1,m1,f1,b1,pA,sA⟩;have lX:=hide (And.intro pA sA);have dg:=hide S1;have aM:=hide b1;have od:=hide (HS.below b1);clear S1 g1 m1 f1 b1 pA sA HS;go_wp2_with fail;refine (GM.out (n - n / 2) (by omega) (some (ad.add (n / 2))) (c - n / 2) (L.drop (n / 2)) w1 (zgq od.out (n / 2) iU _) (Nat.sub_le_sub_right HC.1 _) (Nat.le_trans (Nat.sub_le _ _) HC.2) (by omega)).mono ?_;rintro e w2 ⟨ao2,c2,B,rfl,S2,g2,m2,f2,b2,pB,sB⟩;have i9:=hide (And.intro pB sB);have dZ:=hide S2;replace dg:=hide (dg.below b2);have cu:=wTr aM b2;clear S2 g2 m2 f2 b2 pB sB od aM GM IX;obtain ⟨na,I8⟩:∃ na,Hid (n / 2=na):=⟨_,rfl⟩
   obtain ⟨nb,Iq⟩:∃ nb,Hid (n - n / 2=nb):=⟨_,rfl⟩
   have It:na+nb=n:=by have h1:=I8.out;have h2:=Iq.out;omega
   have IJ:0 < na:=by have h1:=I8.out;omega
   have IN:0 < nb:=by have h1:=Iq.out;omega
   rw [Iq.out] at dZ ⊢;rw [I8.out] at dg lX i9 iU K9 ⊢;obtain ⟨d1,tS,_⟩:=qy dg.out 0 IJ;obtain ⟨d2,u1,_⟩:=qy dZ.out 0 IN;subst tS u1;obtain ⟨C,Ie,hC⟩:=zfh w2 n hn;have nN:=hide (dy.made w2 C n hC (by unfold maxLen;omega));clear hC;go_wp2_with fail;clear Ie;go_loopw [5,6,7] (fun v vi vj wr=>∃ (i j:Nat) (ao:Option Addr) (cap:Nat) (acc:List Int),i <= na/\j <= nb/\v = .slice ao acc.length cap/\vi = .int .i64 i/\vj = .int .i64 j/\Hid (dy w2.heap.size w2.heap.size w2 wr ao cap acc/\MI A B acc i j/\acc.length=i+j)) (fun _ vi vj _=>n - ((intOf vi).toNat+(intOf vj).toNat))
   case atStart=>exact ⟨0,0,_,n,[],Nat.zero_le _,Nat.zero_le _,rfl,rfl,rfl,nN.out,MI.start A B,rfl⟩
   case round =>
    obtain ⟨i,j,ao,cap,acc,hi,hj,rfl,rfl,rfl,HI⟩:=hrel
    rename World=>w6
    clear nN;by_cases hia:i < na
    ·obtain ⟨xa,K2⟩:∃ x,Hid (A.getD i 0=x):=⟨_,rfl⟩
     have dT:Hid (A[i]? = some xa):=by show _=_;rw [<- K2.out];exact getD_some A i (by rw [dg.1];exact hia)
     have ca:=(dg.below HI.1.below).2.2 d1 rfl i hia;rw [K2.out] at ca;have ra:=cell_regrown ca;by_cases CR:j < nb
     ·obtain ⟨xb,Et⟩:∃ x,Hid (B.getD j 0=x):=⟨_,rfl⟩
      have eN:Hid (B[j]? = some xb):=by show _=_;rw [<- Et.out];exact getD_some B j (by rw [dZ.1];exact CR)
      have cb:=(dZ.below HI.1.below).2.2 d2 rfl j CR;rw [Et.out] at cb;have rb:=cell_regrown cb
      have Db:((j:Int) == (nb:Int))=false:=by simp;omega
      by_cases lM:xa <= xb
      ·have Gw:Hid (∀ y,B[j]? = some y -> xa <= y):=fun y hy=>by rw [eN.out] at hy;obtain rfl:=Option.some.inj hy;exact lM
       go_wp2_with fail;refine wp_region_quiet_below (by kernel_rfl) (by kernel_rfl) ?_
       repeat (with_reducible (refine wpQuiet_step ?_);intro K hK;go_simp;(try rw [if_neg (by unfold undef;simp)]);first | (with_reducible (refine hK _ ?_);clear hK K) | (apply Exists.intro;refine ⟨fun _=>?_,hK _ ?_⟩;(fail);clear hK K))
       with_reducible (refine wpQuiet_nil ?_)
       intro w7 hw';obtain ⟨⟨dq,osq⟩,hw''⟩:=hw'
       have bw7:Below w6.heap.size w6 w7:=by rw [hw''];exact below_regrown w6 dq osq
       clear hw'' dq osq;have fj:=hide (HI.1.later bw7);have ca7:=(bw7.cell (World.block_lt_of_cell? _ _ ca)).trans ca;have Ba:=hide (HI.2.1.left lX.2 i9.2 dT.out Gw);have fW:=hide HI.2.2;obtain ⟨m,Hm⟩:∃ m,Hid (acc.length=m):=⟨_,rfl⟩;rw [Hm.out];clear bw7 HI ra rb ca cb Db;go_wp2_with (at_builtin;refine (fj.later (ze w7 _)).append [xa] ⟨w7.heap.size,0,none⟩ 1 1 (eJ w7 xa _ rfl 3) (by have:=fW.out;omega) rfl (.tmp 60) (.tmp 65) rfl m Hm.out rfl rfl ?_;intro ao8 c8 w8 O8 _ _;have eO:=hide O8;clear O8);go_roundw
       case rel=>exact ⟨i+1,j,ao8,c8,acc++[xa],by omega,by omega,by rw [List.length_append,Hm.out];rfl,by go_num,by go_num,eO.out,Ba.out,by rw [List.length_append,fW.out];simp only [List.length_cons,List.length_nil];omega⟩
       case measure=>simp [intOf];omega
      ·have Gg:Hid (∀ x,A[i]? = some x -> xb <= x):=fun x hx=>by rw [dT.out] at hx;obtain rfl:=Option.some.inj hx;omega
       have ug:=decide_eq_false lM;go_wp2_with fail;refine wp_region_quiet_below (by kernel_rfl) (by kernel_rfl) ?_
       repeat (with_reducible (refine wpQuiet_step ?_);intro K hK;go_simp;(try rw [if_neg (by unfold undef;simp)]);first | (with_reducible (refine hK _ ?_);clear hK K) | (apply Exists.intro;refine ⟨fun _=>?_,hK _ ?_⟩;(fail);clear hK K))
       with_reducible (refine wpQuiet_nil ?_)
       intro w7 hw';obtain ⟨⟨dq,osq⟩,hw''⟩:=hw'
       have bw7:Below w6.heap.size w6 w7:=by rw [hw''];exact below_regrown w6 dq osq
       clear hw'' dq osq;have fj:=hide (HI.1.later bw7);have cb7:=(bw7.cell (World.block_lt_of_cell? _ _ cb)).trans cb;have Ba:=hide (HI.2.1.right lX.2 i9.2 eN.out Gg);have fW:=hide HI.2.2;obtain ⟨m,Hm⟩:∃ m,Hid (acc.length=m):=⟨_,rfl⟩;rw [Hm.out];clear bw7 HI ra rb ca cb Db ug;go_wp2_with (at_builtin;refine (fj.later (ze w7 _)).append [xb] ⟨w7.heap.size,0,none⟩ 1 1 (eJ w7 xb _ rfl 3) (by have:=fW.out;omega) rfl (.tmp 69) (.tmp 74) rfl m Hm.out rfl rfl ?_;intro ao8 c8 w8 O8 _ _;have eO:=hide O8;clear O8);go_roundw
       case rel=>exact ⟨i,j+1,ao8,c8,acc++[xb],by omega,by omega,by rw [List.length_append,Hm.out];rfl,by go_num,by go_num,eO.out,Ba.out,by rw [List.length_append,fW.out];simp only [List.length_cons,List.length_nil];omega⟩
       case measure=>simp [intOf];omega
     ·have Db:((j:Int) == (nb:Int))=true:=by simp;omega
      have Gw:Hid (∀ y,B[j]? = some y -> xa <= y):=fun y hy=>by
       have:=(List.getElem?_eq_some_iff.1 hy).1;rw [dZ.1] at this;omega
      go_wp2_with fail;refine wp_region_quiet_below (by kernel_rfl) (by kernel_rfl) ?_
      repeat (with_reducible (refine wpQuiet_step ?_);intro K hK;go_simp;(try rw [if_neg (by unfold undef;simp)]);first | (with_reducible (refine hK _ ?_);clear hK K) | (apply Exists.intro;refine ⟨fun _=>?_,hK _ ?_⟩;(fail);clear hK K))
      with_reducible (refine wpQuiet_nil ?_)
      intro w7 hw';obtain ⟨⟨dq,osq⟩,hw''⟩:=hw'
      have bw7:Below w6.heap.size w6 w7:=by rw [hw''];exact below_regrown w6 dq osq
      clear hw'' dq osq;have fj:=hide (HI.1.later bw7);have ca7:=(bw7.cell (World.block_lt_of_cell? _ _ ca)).trans ca;have Ba:=hide (HI.2.1.left lX.2 i9.2 dT.out Gw);have fW:=hide HI.2.2;obtain ⟨m,Hm⟩:∃ m,Hid (acc.length=m):=⟨_,rfl⟩;rw [Hm.out];clear bw7 HI ra ca Db;go_wp2_with (at_builtin;refine (fj.later (ze w7 _)).append [xa] ⟨w7.heap.size,0,none⟩ 1 1 (eJ w7 xa _ rfl 3) (by have:=fW.out;omega) rfl (.tmp 60) (.tmp 65) rfl m Hm.out rfl rfl ?_;intro ao8 c8 w8 O8 _ _;have eO:=hide O8;clear O8);go_roundw
      case rel=>exact ⟨i+1,j,ao8,c8,acc++[xa],by omega,by omega,by rw [List.length_append,Hm.out];rfl,by go_num,by go_num,eO.out,Ba.out,by rw [List.length_append,fW.out];simp only [List.length_cons,List.length_nil];omega⟩
      case measure=>simp [intOf];omega
    ·by_cases CR:j < nb
     ·obtain ⟨xb,Et⟩:∃ x,Hid (B.getD j 0=x):=⟨_,rfl⟩
      have eN:Hid (B[j]? = some xb):=by show _=_;rw [<- Et.out];exact getD_some B j (by rw [dZ.1];exact CR)
      have cb:=(dZ.below HI.1.below).2.2 d2 rfl j CR;rw [Et.out] at cb;have rb:=cell_regrown cb
      have Db:((j:Int) == (nb:Int))=false:=by simp;omega
      have Gg:Hid (∀ x,A[i]? = some x -> xb <= x):=fun x hx=>by
       have:=(List.getElem?_eq_some_iff.1 hx).1;rw [dg.1] at this;omega
      have I7:¬ (i:Int) < (na:Int):=by omega
      go_wp2_with fail;refine wp_region_quiet_below (by kernel_rfl) (by kernel_rfl) ?_
      repeat (with_reducible (refine wpQuiet_step ?_);intro K hK;go_simp;(try rw [if_neg (by unfold undef;simp)]);first | (with_reducible (refine hK _ ?_);clear hK K) | (apply Exists.intro;refine ⟨fun _=>?_,hK _ ?_⟩;(fail);clear hK K))
      with_reducible (refine wpQuiet_nil ?_)
      intro w7 hw';obtain ⟨⟨dq,osq⟩,hw''⟩:=hw'
      have bw7:Below w6.heap.size w6 w7:=by rw [hw''];exact below_regrown w6 dq osq
      clear hw'' dq osq;have fj:=hide (HI.1.later bw7);have cb7:=(bw7.cell (World.block_lt_of_cell? _ _ cb)).trans cb;have Ba:=hide (HI.2.1.right lX.2 i9.2 eN.out Gg);have fW:=hide HI.2.2;obtain ⟨m,Hm⟩:∃ m,Hid (acc.length=m):=⟨_,rfl⟩;rw [Hm.out];clear bw7 HI rb cb Db;go_wp2_with (at_builtin;refine (fj.later (ze w7 _)).append [xb] ⟨w7.heap.size,0,none⟩ 1 1 (eJ w7 xb _ rfl 3) (by have:=fW.out;omega) rfl (.tmp 69) (.tmp 74) rfl m Hm.out rfl rfl ?_;intro ao8 c8 w8 O8 _ _;have eO:=hide O8;clear O8);go_roundw
      case rel=>exact ⟨i,j+1,ao8,c8,acc++[xb],by omega,by omega,by rw [List.length_append,Hm.out];rfl,by go_num,by go_num,eO.out,Ba.out,by rw [List.length_append,fW.out];simp only [List.length_cons,List.length_nil];omega⟩
      case measure=>simp [intOf];omega
     ·obtain rfl:i=na:=by omega
      obtain rfl:j=nb:=by omega
      have I7:¬ (i:Int) < (i:Int):=by omega
      have HD:Hid (acc.Perm L/\acc.Pairwise (· <= ·)):=by
       have h:=HI.2.1;have e1:A.length=i:=dg.1;have e2:B.length=j:=dZ.1;rw [<- e1,<- e2] at h;refine ⟨h.done lX.1 ?_,h.s⟩;exact i9.1
      obtain ⟨S3,f3,g3,m3⟩:=HI.1.src
      have e3:acc.length=n:=by rw [HI.2.2];exact It
      rw [e3] at S3 g3 ⊢;have HG:Hid (oX w w6 (.returned (.slice ao n cap)) n (fun M=>M.Perm L/\M.Pairwise (· <= ·))):=⟨ao,cap,acc,rfl,S3,g3,m3,fun ad h=>Nat.le_trans cu.size (f3 ad h),cu.trans (HI.1.below.mono cu.size),HD.out⟩;clear S3 f3 g3 m3 e3;go_wp2_with fail;go_ret;exact HG.out
end Go.Proofs.YtjffpimfngdggaaGreat
