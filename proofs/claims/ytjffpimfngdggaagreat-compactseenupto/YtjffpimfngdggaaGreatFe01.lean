/- QSo -/
import Derived.Test.YtjffpimfngdggaaGreatTk
import Derived.Test.YtjffpimfngdggaaGreatFe00
set_option maxRecDepth 100000
set_option maxHeartbeats 4000000
namespace Go.Proofs.YtjffpimfngdggaaGreat
open Go.RowKit
attribute [local go_sem ↓] V.ye
def nQ (w w':World) (e:Ending) (n:Nat) (P:List Int -> Prop):Prop:=∃ ao c L,e = .returned (.slice ao n c)/\V.Src w' ao n c L/\n <= c/\c <= maxLen/\(∀ ad,ao=some ad -> w.heap.size <= ad.block)/\Below w.heap.size w w'/\P L
theorem zeJ (w:World) (n:Nat) (hn:n <= 17592186044415):∃ C:Array Value,(V.o3 (.int .i64 0) (.int .i64 (n:Int))).run Tryz.prog w = .ok (.slice (some ⟨w.heap.size,0,none⟩) 0 n) (w.alloc (.cells C 3))/\C.size=n * 1:=by
 obtain ⟨i0,hi,dg,dn,ee⟩:=info_parts mG;have h:=run_make (P:=Tryz.prog) w 23 3 i0 (.int .i64 0) Tryz.underlying23 hi dg .i64 .i64 0 (n:Int) (by omega) (by omega) (by rw [ee];omega) (by omega);rw [dn,Int.toNat_natCast,Nat.mul_one] at h;refine ⟨_,h,?_⟩;simp [madeCells]
theorem yK:∀ (n:Nat) (ao:Option Addr) (c:Nat) (L:List Int) (w:World),V.Src w ao n c L -> n <= c -> c <= maxLen -> n <= 17592186044415 ->
  Calls Tryz.prog 218 #[.slice ao n c] w fun e w'=>nQ w w' e n (fun M=>M.Perm L/\M.Pairwise (· <= ·)):=by
 intro n
 induction n using Nat.strongRecOn with
 | ind n ih =>
  intro ao c L w hS hnc eV hn;have HS:=hide hS;have HL:Hid (L.length=n):=hS.1;have HC:=hide (And.intro hnc eV);have IJ:=hide ih;clear hS ih hnc eV;by_cases h2:n < 2
  ·have Gk:(n:Int) < 2:=by omega
   have MN:Hid (L.Perm L/\L.Pairwise (· <= ·)):=⟨List.Perm.refl _,zaP (by rw [HL.out];exact h2)⟩;have HO:=hide (dz.made w #[] 0 rfl (by unfold maxLen;omega));have dm:=hide (HS.out.below (ze w (.cells #[] 3)));go_enter Tryz.func218,Tryz.ntmps218;go_wp2_with (at_builtin;refine HO.out.appendS L ao n c dm.out (by simp only [List.length_nil];omega) rfl (.tmp 11) (.tmp 12) rfl 0 rfl rfl rfl ?_;intro ao3 c3 w3 O3;rw [List.nil_append] at O3;have lL:=hide O3;clear O3);obtain ⟨S3,f3,g3,m3⟩:=lL.out.src;rw [HL.out] at S3 g3;have HG:Hid (nQ w w3 (.returned (.slice ao3 n c3)) n (fun M=>M.Perm L/\M.Pairwise (· <= ·))):=⟨ao3,c3,L,rfl,S3,g3,m3,f3,lL.out.below,MN.out⟩;clear S3 f3 g3 m3;go_ret;exact HG.out
  ·obtain ⟨ad,eO,_⟩:=qF HS.out 0 (by omega);subst eO
   have Gk:¬ (n:Int) < 2:=by omega
   have gY:n / 2 <= n:=by omega
   have Jy:n / 2 <= c:=by have:=HC.out.1;omega
   have Gn:¬ c=n / 2:=by have:=HC.out.1;omega
   go_enter Tryz.func218,Tryz.ntmps218;go_wp2_with fail;refine (IJ.out (n / 2) (by omega) (some ad) c (L.take (n / 2)) w (zfP HS.out (n / 2) gY) Jy HC.out.2 (by omega)).mono ?_;rintro e w1 ⟨ao1,c1,A,rfl,S1,g1,m1,f1,b1,pA,sA⟩;have lz:=hide (And.intro pA sA);have dm:=hide S1;have aN:=hide b1;have uE:=hide (HS.out.below b1);clear S1 g1 m1 f1 b1 pA sA HS;go_wp2_with fail;refine (IJ.out (n - n / 2) (by omega) (some (ad.add (n / 2))) (c - n / 2) (L.drop (n / 2)) w1 (zfQ uE.out (n / 2) gY _) (Nat.sub_le_sub_right HC.out.1 _) (Nat.le_trans (Nat.sub_le _ _) HC.out.2) (by omega)).mono ?_;rintro e w2 ⟨ao2,c2,B,rfl,S2,g2,m2,f2,b2,pB,sB⟩;have iJ:=hide (And.intro pB sB);have dX:=hide S2;replace dm:=hide (dm.out.below b2);have cg:=wTr aN b2;clear S2 g2 m2 f2 b2 pB sB uE aN IJ Gn;obtain ⟨na,GA⟩:∃ na,Hid (n / 2=na):=⟨_,rfl⟩
   obtain ⟨nb,Ix⟩:∃ nb,Hid (n - n / 2=nb):=⟨_,rfl⟩
   have Ii:na+nb=n:=by have h1:=GA.out;have h2:=Ix.out;omega
   have H6:0 < na:=by have h1:=GA.out;omega
   have Gy:0 < nb:=by have h1:=Ix.out;omega
   rw [Ix.out] at dX ⊢;rw [GA.out] at dm lz iJ gY Jy ⊢;obtain ⟨d1,tg,_⟩:=qF dm.out 0 H6;obtain ⟨d2,uq,_⟩:=qF dX.out 0 Gy;subst tg uq;obtain ⟨C,DL,hC⟩:=zeJ w2 n hn;have lL:=hide (dz.made w2 C n hC (by unfold maxLen;omega));clear hC;go_wp2_with fail;clear DL;go_loopw [5,6,7] (fun v vi vj wr=>∃ (i j:Nat) (ao:Option Addr) (cap:Nat) (acc:List Int),i <= na/\j <= nb/\v = .slice ao acc.length cap/\vi = .int .i64 i/\vj = .int .i64 j/\Hid (dz w2.heap.size w2.heap.size w2 wr ao cap acc/\MI A B acc i j/\acc.length=i+j)) (fun _ vi vj _=>n - ((intOf vi).toNat+(intOf vj).toNat))
   case atStart=>exact ⟨0,0,_,n,[],Nat.zero_le _,Nat.zero_le _,rfl,rfl,rfl,lL.out,MI.start A B,rfl⟩
   case round =>
    obtain ⟨i,j,ao,cap,acc,hi,hj,rfl,rfl,rfl,HI⟩:=hrel
    rename World=>w6
    clear lL;by_cases hia:i < na
    ·obtain ⟨xa,KP⟩:∃ x,Hid (A.getD i 0=x):=⟨_,rfl⟩
     have eo:Hid (A[i]? = some xa):=by show _=_;rw [<- KP.out];exact getD_some A i (by rw [dm.out.1];exact hia)
     have ca:=(dm.out.below HI.out.1.below).2.2 d1 rfl i hia;rw [KP.out] at ca;have ra:=cell_regrown ca;by_cases Ci:j < nb
     ·obtain ⟨xb,D1⟩:∃ x,Hid (B.getD j 0=x):=⟨_,rfl⟩
      have fk:Hid (B[j]? = some xb):=by show _=_;rw [<- D1.out];exact getD_some B j (by rw [dX.out.1];exact Ci)
      have cb:=(dX.out.below HI.out.1.below).2.2 d2 rfl j Ci;rw [D1.out] at cb;have rb:=cell_regrown cb
      have BZ:((j:Int) == (nb:Int))=false:=by simp;omega
      by_cases lM:xa <= xb
      ·have Gc:Hid (∀ y,B[j]? = some y -> xa <= y):=fun y hy=>by rw [fk.out] at hy;obtain rfl:=Option.some.inj hy;exact lM
       go_wp2_with fail;refine wp_region_quiet_below (by kernel_rfl) (by kernel_rfl) ?_
       repeat (with_reducible (refine wpQuiet_step ?_);intro K hK;go_simp;(try rw [if_neg (by unfold undef;simp)]);first | (with_reducible (refine hK _ ?_);clear hK K) | (apply Exists.intro;refine ⟨fun _=>?_,hK _ ?_⟩;(fail);clear hK K))
       with_reducible (refine wpQuiet_nil ?_)
       intro w7 hw';obtain ⟨⟨dq,osq⟩,hw''⟩:=hw'
       have bw7:Below w6.heap.size w6 w7:=by rw [hw''];exact below_regrown w6 dq osq
       clear hw'' dq osq;have fI:=hide (HI.out.1.later bw7);have ca7:=(bw7.cell (World.block_lt_of_cell? _ _ ca)).trans ca;have Bj:=hide (HI.out.2.1.left lz.out.2 iJ.out.2 eo.out Gc.out);have gl:=hide HI.out.2.2;obtain ⟨m,Hm⟩:∃ m,Hid (acc.length=m):=⟨_,rfl⟩;rw [Hm.out];clear bw7 HI ra rb ca cb BZ;go_wp2_with (at_builtin;refine (fI.out.later (ze w7 _)).append [xa] ⟨w7.heap.size,0,none⟩ 1 1 (eL w7 xa _ rfl 3) (by have:=gl.out;omega) rfl (.tmp 60) (.tmp 65) rfl m Hm.out rfl rfl ?_;intro ao8 c8 w8 O8 _ _;have fD:=hide O8;clear O8);go_roundw
       case rel=>exact ⟨i+1,j,ao8,c8,acc++[xa],by omega,by omega,by rw [List.length_append,Hm.out];rfl,by go_num,by go_num,fD.out,Bj.out,by rw [List.length_append,gl.out];simp only [List.length_cons,List.length_nil];omega⟩
       case measure=>simp [intOf];omega
      ·have IK:Hid (∀ x,A[i]? = some x -> xb <= x):=fun x hx=>by rw [eo.out] at hx;obtain rfl:=Option.some.inj hx;omega
       have tA:=decide_eq_false lM;go_wp2_with fail;refine wp_region_quiet_below (by kernel_rfl) (by kernel_rfl) ?_
       repeat (with_reducible (refine wpQuiet_step ?_);intro K hK;go_simp;(try rw [if_neg (by unfold undef;simp)]);first | (with_reducible (refine hK _ ?_);clear hK K) | (apply Exists.intro;refine ⟨fun _=>?_,hK _ ?_⟩;(fail);clear hK K))
       with_reducible (refine wpQuiet_nil ?_)
       intro w7 hw';obtain ⟨⟨dq,osq⟩,hw''⟩:=hw'
       have bw7:Below w6.heap.size w6 w7:=by rw [hw''];exact below_regrown w6 dq osq
       clear hw'' dq osq;have fI:=hide (HI.out.1.later bw7);have cb7:=(bw7.cell (World.block_lt_of_cell? _ _ cb)).trans cb;have Bj:=hide (HI.out.2.1.right lz.out.2 iJ.out.2 fk.out IK.out);have gl:=hide HI.out.2.2;obtain ⟨m,Hm⟩:∃ m,Hid (acc.length=m):=⟨_,rfl⟩;rw [Hm.out];clear bw7 HI ra rb ca cb BZ tA;go_wp2_with (at_builtin;refine (fI.out.later (ze w7 _)).append [xb] ⟨w7.heap.size,0,none⟩ 1 1 (eL w7 xb _ rfl 3) (by have:=gl.out;omega) rfl (.tmp 69) (.tmp 74) rfl m Hm.out rfl rfl ?_;intro ao8 c8 w8 O8 _ _;have fD:=hide O8;clear O8);go_roundw
       case rel=>exact ⟨i,j+1,ao8,c8,acc++[xb],by omega,by omega,by rw [List.length_append,Hm.out];rfl,by go_num,by go_num,fD.out,Bj.out,by rw [List.length_append,gl.out];simp only [List.length_cons,List.length_nil];omega⟩
       case measure=>simp [intOf];omega
     ·have BZ:((j:Int) == (nb:Int))=true:=by simp;omega
      have Gc:Hid (∀ y,B[j]? = some y -> xa <= y):=fun y hy=>by
       have:=(List.getElem?_eq_some_iff.1 hy).1;rw [dX.out.1] at this;omega
      go_wp2_with fail;refine wp_region_quiet_below (by kernel_rfl) (by kernel_rfl) ?_
      repeat (with_reducible (refine wpQuiet_step ?_);intro K hK;go_simp;(try rw [if_neg (by unfold undef;simp)]);first | (with_reducible (refine hK _ ?_);clear hK K) | (apply Exists.intro;refine ⟨fun _=>?_,hK _ ?_⟩;(fail);clear hK K))
      with_reducible (refine wpQuiet_nil ?_)
      intro w7 hw';obtain ⟨⟨dq,osq⟩,hw''⟩:=hw'
      have bw7:Below w6.heap.size w6 w7:=by rw [hw''];exact below_regrown w6 dq osq
      clear hw'' dq osq;have fI:=hide (HI.out.1.later bw7);have ca7:=(bw7.cell (World.block_lt_of_cell? _ _ ca)).trans ca;have Bj:=hide (HI.out.2.1.left lz.out.2 iJ.out.2 eo.out Gc.out);have gl:=hide HI.out.2.2;obtain ⟨m,Hm⟩:∃ m,Hid (acc.length=m):=⟨_,rfl⟩;rw [Hm.out];clear bw7 HI ra ca BZ;go_wp2_with (at_builtin;refine (fI.out.later (ze w7 _)).append [xa] ⟨w7.heap.size,0,none⟩ 1 1 (eL w7 xa _ rfl 3) (by have:=gl.out;omega) rfl (.tmp 60) (.tmp 65) rfl m Hm.out rfl rfl ?_;intro ao8 c8 w8 O8 _ _;have fD:=hide O8;clear O8);go_roundw
      case rel=>exact ⟨i+1,j,ao8,c8,acc++[xa],by omega,by omega,by rw [List.length_append,Hm.out];rfl,by go_num,by go_num,fD.out,Bj.out,by rw [List.length_append,gl.out];simp only [List.length_cons,List.length_nil];omega⟩
      case measure=>simp [intOf];omega
    ·by_cases Ci:j < nb
     ·obtain ⟨xb,D1⟩:∃ x,Hid (B.getD j 0=x):=⟨_,rfl⟩
      have fk:Hid (B[j]? = some xb):=by show _=_;rw [<- D1.out];exact getD_some B j (by rw [dX.out.1];exact Ci)
      have cb:=(dX.out.below HI.out.1.below).2.2 d2 rfl j Ci;rw [D1.out] at cb;have rb:=cell_regrown cb
      have BZ:((j:Int) == (nb:Int))=false:=by simp;omega
      have IK:Hid (∀ x,A[i]? = some x -> xb <= x):=fun x hx=>by
       have:=(List.getElem?_eq_some_iff.1 hx).1;rw [dm.out.1] at this;omega
      have Ga:¬ (i:Int) < (na:Int):=by omega
      go_wp2_with fail;refine wp_region_quiet_below (by kernel_rfl) (by kernel_rfl) ?_
      repeat (with_reducible (refine wpQuiet_step ?_);intro K hK;go_simp;(try rw [if_neg (by unfold undef;simp)]);first | (with_reducible (refine hK _ ?_);clear hK K) | (apply Exists.intro;refine ⟨fun _=>?_,hK _ ?_⟩;(fail);clear hK K))
      with_reducible (refine wpQuiet_nil ?_)
      intro w7 hw';obtain ⟨⟨dq,osq⟩,hw''⟩:=hw'
      have bw7:Below w6.heap.size w6 w7:=by rw [hw''];exact below_regrown w6 dq osq
      clear hw'' dq osq;have fI:=hide (HI.out.1.later bw7);have cb7:=(bw7.cell (World.block_lt_of_cell? _ _ cb)).trans cb;have Bj:=hide (HI.out.2.1.right lz.out.2 iJ.out.2 fk.out IK.out);have gl:=hide HI.out.2.2;obtain ⟨m,Hm⟩:∃ m,Hid (acc.length=m):=⟨_,rfl⟩;rw [Hm.out];clear bw7 HI rb cb BZ;go_wp2_with (at_builtin;refine (fI.out.later (ze w7 _)).append [xb] ⟨w7.heap.size,0,none⟩ 1 1 (eL w7 xb _ rfl 3) (by have:=gl.out;omega) rfl (.tmp 69) (.tmp 74) rfl m Hm.out rfl rfl ?_;intro ao8 c8 w8 O8 _ _;have fD:=hide O8;clear O8);go_roundw
      case rel=>exact ⟨i,j+1,ao8,c8,acc++[xb],by omega,by omega,by rw [List.length_append,Hm.out];rfl,by go_num,by go_num,fD.out,Bj.out,by rw [List.length_append,gl.out];simp only [List.length_cons,List.length_nil];omega⟩
      case measure=>simp [intOf];omega
     ·obtain rfl:i=na:=by omega
      obtain rfl:j=nb:=by omega
      have Ga:¬ (i:Int) < (i:Int):=by omega
      have HD:Hid (acc.Perm L/\acc.Pairwise (· <= ·)):=by
       have h:=HI.out.2.1;have e1:A.length=i:=dm.out.1;have e2:B.length=j:=dX.out.1;rw [<- e1,<- e2] at h;refine ⟨h.done lz.out.1 ?_,h.s⟩;exact iJ.out.1
      obtain ⟨S3,f3,g3,m3⟩:=HI.out.1.src
      have e3:acc.length=n:=by rw [HI.out.2.2];exact Ii
      rw [e3] at S3 g3 ⊢;have HG:Hid (nQ w w6 (.returned (.slice ao n cap)) n (fun M=>M.Perm L/\M.Pairwise (· <= ·))):=⟨ao,cap,acc,rfl,S3,g3,m3,fun ad h=>Nat.le_trans cg.out.size (f3 ad h),cg.out.trans (HI.out.1.below.mono cg.out.size),HD.out⟩;clear S3 f3 g3 m3 e3;go_wp2_with fail;go_ret;exact HG.out
end Go.Proofs.YtjffpimfngdggaaGreat
