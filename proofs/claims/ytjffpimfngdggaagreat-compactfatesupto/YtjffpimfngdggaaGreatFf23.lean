/- QCo -/
import Derived.Test.YtjffpimfngdggaaGreatFf22
import Derived.Deep.CutRange
set_option maxRecDepth 100000
set_option maxHeartbeats 4000000
namespace Go.Proofs.YtjffpimfngdggaaGreat
open Go.RowKit

theorem ziS (A B:List Int) (i j:Nat) (hi:i <= A.length) (hj:j <= B.length) (h:i < A.length∨j < B.length):∃ (at':Int) (i' j':Nat) (c1 c2 c3:Bool),
  (c1=true↔(j=B.length∨(i < A.length/\A.getD i 0 < B.getD j 0))) /\
  (c1=true -> i < A.length/\at'=A.getD i 0)/\(c1=false -> j < B.length/\at'=B.getD j 0) /\
  (c2=true↔(i < A.length/\A.getD i 0=at'))/\(c2=true -> i'=i+1)/\(c2=false -> i'=i) /\
  (c3=true↔(j < B.length/\B.getD j 0=at'))/\(c3=true -> j'=j+1)/\(c3=false -> j'=j) /\
  ((A[i]? = some at'/\i'=i+1)∨((∀ x,A[i]? = some x -> at' < x)/\i'=i)) /\
  ((B[j]? = some at'/\j'=j+1)∨((∀ x,B[j]? = some x -> at' < x)/\j'=j)) /\
  (A[i]? = some at'∨B[j]? = some at')/\i+j < i'+j'/\i' <= A.length/\j' <= B.length:=by
 have eA:i < A.length -> A[i]? = some (A.getD i 0):=fun g=>getD_some A i g;have eB:j < B.length -> B[j]? = some (B.getD j 0):=fun g=>getD_some B j g;have nA:¬ i < A.length -> ∀ x,A[i]? ≠ some x:=fun g x e=>g (List.getElem?_eq_some_iff.1 e).1;have nB:¬ j < B.length -> ∀ x,B[j]? ≠ some x:=fun g x e=>g (List.getElem?_eq_some_iff.1 e).1;generalize A.getD i 0=x at *;generalize B.getD j 0=y at *;by_cases h1:i < A.length
 ·have e1:=eA h1;by_cases h2:j < B.length
  ·have e2:=eB h2;by_cases h3:x < y
   ·refine ⟨x,i+1,j,true,true,false,by simp;omega,by simp;omega,by simp,by simp;omega,by simp,by simp,by simp;omega,by simp,by simp,Or.inl ⟨e1,rfl⟩,Or.inr ⟨fun z hz=>?_,rfl⟩,Or.inl e1,by omega,by omega,by omega⟩;rw [e2] at hz;obtain rfl:=Option.some.inj hz;exact h3
   ·by_cases h4:x=y
    ·subst h4;exact ⟨x,i+1,j+1,false,true,true,by simp;omega,by simp,by simp;omega,by simp;omega,by simp,by simp,by simp;omega,by simp,by simp,Or.inl ⟨e1,rfl⟩,Or.inl ⟨e2,rfl⟩,Or.inl e1,by omega,by omega,by omega⟩
    ·refine ⟨y,i,j+1,false,false,true,by simp;omega,by simp,by simp;omega,by simp;omega,by simp,by simp,by simp;omega,by simp,by simp,Or.inr ⟨fun z hz=>?_,rfl⟩,Or.inl ⟨e2,rfl⟩,Or.inr e2,by omega,by omega,by omega⟩;rw [e1] at hz;obtain rfl:=Option.some.inj hz;omega
  ·refine ⟨x,i+1,j,true,true,false,by simp;omega,by simp;omega,by simp,by simp;omega,by simp,by simp,by simp;omega,by simp,by simp,Or.inl ⟨e1,rfl⟩,Or.inr ⟨fun z hz=>absurd hz (nB h2 z),rfl⟩,Or.inl e1,by omega,by omega,by omega⟩
 ·have h2:j < B.length:=by omega
  have e2:=eB h2;refine ⟨y,i,j+1,false,false,true,by simp;omega,by simp,by simp;omega,by simp;omega,by simp,by simp,by simp;omega,by simp,by simp,Or.inr ⟨fun z hz=>absurd hz (nA h1 z),rfl⟩,Or.inl ⟨e2,rfl⟩,Or.inr e2,by omega,by omega,by omega⟩
theorem zh2 (i:Nat):((i:Int) % 2 == 1)=decide (i % 2=1):=by
 by_cases h:i % 2=1
 ·rw [decide_eq_true h,show (i:Int) % 2=1 by omega];rfl
 ·rw [decide_eq_false h,show (i:Int) % 2=0 by omega];rfl
def sH (w w':World) (e:Ending) (k:Int) (a b:List Rn):Prop:=∃ ao n c X,e = .returned (.slice ao n c)/\V.Src w' ao n c (tn X)/\(∀ ad,ao=some ad -> w.heap.size <= ad.block)/\Below w.heap.size w w'/\iF k a b X
theorem zcx (la lb:Option Addr) (n m ca cb:Nat) (A B:List Rn) (k:Int) (w:World) (hA:V.Src w la n ca (tn A)) (hB:V.Src w lb m cb (tn B)) (fA:form 1 A) (fB:form 1 B) (hk:k=1∨k=2) :
  Calls Tryz.prog 167 #[.slice la n ca,.slice lb m cb,.int .i64 k] w fun e w'=>sH w w' e k A B:=by
 have HA:=hide hA;have HB:=hide hB;have HF:=hide (And.intro fA fB);have HK:=hide hk;have mN:Hid ((tn A).length=n):=hA.1;have mM:Hid ((tn B).length=m):=hB.1
 have lL:n <= 1000000002:=by have h1:=hA.1;rw [jt] at h1;have:=qT (Int.le_refl _) fA;omega
 have J2:m <= 1000000002:=by have h1:=hB.1;rw [jt] at h1;have:=qT (Int.le_refl _) fB;omega
 clear hA hB fA fB hk;go_enter Tryz.func167,Tryz.ntmps167;go_wp2_with fail;go_loopw [7,8,9,10] (fun v vi vj vb wr=>∃ (i j:Nat) (ao:Option Addr) (cap l:Nat) (acc:List Int) (b:Bool),i <= n/\j <= m/\l <= i+j/\v = .slice ao l cap/\vi = .int .i64 i/\vj = .int .i64 j/\vb = .bool b/\Hid (acc.length=l/\dy w.heap.size w.heap.size w wr ao cap acc/\CbI k (tn A) (tn B) i j acc b)) (fun _ vi vj _ _=>n+m - ((intOf vi).toNat+(intOf vj).toNat))
 case atStart=>exact ⟨0,0,none,0,0,[],false,Nat.zero_le _,Nat.zero_le _,Nat.zero_le _,rfl,rfl,rfl,rfl,rfl,dy.nil (Below.refl _ _) (Nat.le_refl _) (Nat.le_refl _),CbI.start _ _ _⟩
 case round =>
  obtain ⟨i,j,ao,cap,l,acc,b,hi,hj,hl,rfl,rfl,rfl,rfl,HI⟩:=hrel
  rename World=>w6
  by_cases hgo:i < n∨j < m
  ·obtain ⟨at',i',j',c1,c2,c3,f1,f2,f3,f4,f5,f6,f7,f8,f9,g1,g2,g3,f10,f11,f12⟩:=ziS (tn A) (tn B) i j (by rw [mN.out];exact hi) (by rw [mM.out];exact hj) (by rw [mN.out,mM.out];exact hgo);have mZ:=hide (HI.2.2.step (zbW HF.1) (zbW HF.2) g1 g2 g3);clear g1 g2 g3;rw [mN.out] at f1 f2 f4 f11;rw [mM.out] at f1 f3 f7 f12;obtain ⟨x,Hx⟩:∃ x,Hid ((tn A).getD i 0=x):=⟨_,rfl⟩;obtain ⟨y,Hy⟩:∃ y,Hid ((tn B).getD j 0=y):=⟨_,rfl⟩;rw [Hx.out] at f1 f2 f4;rw [Hy.out] at f1 f3 f7
   have mj:Hid (i < n -> ∃ da,la=some da/\w6.cell? (da.add i)=some (.int .i64 x)):=fun h=>by
    have:=qy (HA.below HI.2.1.below) i h;rw [Hx.out] at this;exact this
   have tw:Hid (j < m -> ∃ db,lb=some db/\w6.cell? (db.add j)=some (.int .i64 y)):=fun h=>by
    have:=qy (HB.below HI.2.1.below) j h;rw [Hy.out] at this;exact this
   have F1:=hide f1;have F2:=hide f2;have F3:=hide f3;have F4:=hide f4;have F5:=hide f5;have F6:=hide f6;have F7:=hide f7;have F8:=hide f8;have F9:=hide f9;clear f1 f2 f3 f4 f5 f6 f7 f8 f9;have MN:=hide hgo;clear hgo;go_upto_region 4 with fail
   go_cut [24] from 15 to 114 (fun c wx=>c = .bool true/\wx=w6)
   case first =>
    by_cases ii:i < n
    ·go_wp2_with fail;go_meet
     case rel=>exact ⟨rfl,rfl⟩
    ·have o9:j < m:=by have:=MN.out;omega
     have AS:¬ (i:Int) < (n:Int):=by omega
     go_wp2_with fail;go_meet
     case rel=>exact ⟨rfl,rfl⟩
   case rest =>
    obtain ⟨rfl,nl⟩:=hcut;subst nl
    rename World=>w6
    go_upto_region 6 with fail
    go_cut [45] from 15 to 114 (fun c wx=>c = .bool c1/\Hid (Below w6.heap.size w6 wx))
    case first =>
     by_cases o9:j < m
     ·have cr:((j:Int) == (m:Int))=false:=by simp;omega
      by_cases ii:i < n
      ·obtain ⟨da,mT,q1⟩:=mj.out ii;obtain ⟨db,mK,q2⟩:=tw.out o9;subst mT mK;have r1:=cell_regrown q1;have r2:=cell_regrown q2;clear q1 q2;by_cases lM:x < y
       ·have e1:c1=true:=F1.2 (Or.inr ⟨ii,lM⟩);subst e1;refine wp_region_quiet_below (by kernel_rfl) (by kernel_rfl) ?_
        repeat (with_reducible (refine wpQuiet_step ?_);intro K hK;go_simp;(try rw [if_neg (by unfold undef;simp)]);first | (with_reducible (refine hK _ ?_);clear hK K) | (apply Exists.intro;refine ⟨fun _=>?_,hK _ ?_⟩;(fail);clear hK K))
        with_reducible (refine wpQuiet_nil ?_)
        intro w7 hw';obtain ⟨⟨dq,osq⟩,hw''⟩:=hw'
        have bw7:Below w6.heap.size w6 w7:=by rw [hw''];exact below_regrown w6 dq osq
        clear hw'' dq osq;go_wp2_with fail;go_meet
        case rel=>exact ⟨rfl,bw7⟩
       ·have e1:c1=false:=by cases c1 with | false=>rfl | true=>(have:=F1.1 rfl;omega)
        subst e1;refine wp_region_quiet_below (by kernel_rfl) (by kernel_rfl) ?_
        repeat (with_reducible (refine wpQuiet_step ?_);intro K hK;go_simp;(try rw [if_neg (by unfold undef;simp)]);first | (with_reducible (refine hK _ ?_);clear hK K) | (apply Exists.intro;refine ⟨fun _=>?_,hK _ ?_⟩;(fail);clear hK K))
        with_reducible (refine wpQuiet_nil ?_)
        intro w7 hw';obtain ⟨⟨dq,osq⟩,hw''⟩:=hw'
        have bw7:Below w6.heap.size w6 w7:=by rw [hw''];exact below_regrown w6 dq osq
        clear hw'' dq osq;go_wp2_with fail;go_meet
        case rel=>exact ⟨rfl,bw7⟩
      ·have e1:c1=false:=by cases c1 with | false=>rfl | true=>(have:=F1.1 rfl;omega)
       subst e1
       have AS:¬ (i:Int) < (n:Int):=by omega
       refine wp_region_quiet_below (by kernel_rfl) (by kernel_rfl) ?_
       repeat (with_reducible (refine wpQuiet_step ?_);intro K hK;go_simp;(try rw [if_neg (by unfold undef;simp)]);first | (with_reducible (refine hK _ ?_);clear hK K) | (apply Exists.intro;refine ⟨fun _=>?_,hK _ ?_⟩;(fail);clear hK K))
       with_reducible (refine wpQuiet_nil ?_)
       intro w7 hw';obtain ⟨⟨dq,osq⟩,hw''⟩:=hw'
       have bw7:Below w6.heap.size w6 w7:=by rw [hw''];exact below_regrown w6 dq osq
       clear hw'' dq osq;go_wp2_with fail;go_meet
       case rel=>exact ⟨rfl,bw7⟩
     ·have e1:c1=true:=F1.2 (Or.inl (by omega));subst e1
      have cr:((j:Int) == (m:Int))=true:=by simp;omega
      refine wp_region_quiet_below (by kernel_rfl) (by kernel_rfl) ?_
      repeat (with_reducible (refine wpQuiet_step ?_);intro K hK;go_simp;(try rw [if_neg (by unfold undef;simp)]);first | (with_reducible (refine hK _ ?_);clear hK K) | (apply Exists.intro;refine ⟨fun _=>?_,hK _ ?_⟩;(fail);clear hK K))
      with_reducible (refine wpQuiet_nil ?_)
      intro w7 hw';obtain ⟨⟨dq,osq⟩,hw''⟩:=hw'
      have bw7:Below w6.heap.size w6 w7:=by rw [hw''];exact below_regrown w6 dq osq
      clear hw'' dq osq;go_wp2_with fail;go_meet
      case rel=>exact ⟨rfl,bw7⟩
    case rest =>
     obtain ⟨rfl,dR⟩:=hcut;have fj:=hide (HI.2.1.later dR);have fW:=hide HI.1
     replace mj:Hid (i < n -> ∃ da,la=some da/\wc.cell? (da.add i)=some (.int .i64 x)):=fun h=>by
      obtain ⟨da,e,q⟩:=mj.out h;exact ⟨da,e,(dR.cell (World.block_lt_of_cell? _ _ q)).trans q⟩
     replace tw:Hid (j < m -> ∃ db,lb=some db/\wc.cell? (db.add j)=some (.int .i64 y)):=fun h=>by
      obtain ⟨da,e,q⟩:=tw.out h;exact ⟨da,e,(dR.cell (World.block_lt_of_cell? _ _ q)).trans q⟩
     clear dR HI;go_upto_if 45 with fail
     go_cut [11] from 15 to 114 (fun s wx=>s = .int .i64 at'/\wx=wc)
     case first =>
      cases c1 with
      | true =>
       obtain ⟨ii,e⟩:=F2.out rfl;subst e;obtain ⟨da,mT,q1⟩:=mj.out ii;subst mT;go_wp2_with fail;go_meet
       case rel=>exact ⟨rfl,rfl⟩
      | false =>
       obtain ⟨o9,e⟩:=F3.out rfl;subst e;obtain ⟨db,mK,q2⟩:=tw.out o9;subst mK;go_wp2_with fail;go_meet
       case rel=>exact ⟨rfl,rfl⟩
     case rest =>
      obtain ⟨rfl,nl⟩:=hcut;subst nl;clear F1 F2 F3
      rename World=>w7
      go_upto_region 9 with fail
      go_cut [65] from 15 to 114 (fun c wx=>c = .bool c2/\wx=w7)
      case first =>
       by_cases ii:i < n
       ·obtain ⟨da,mT,q1⟩:=mj.out ii;subst mT;by_cases he:x=at'
        ·have e2:c2=true:=F4.2 ⟨ii,he⟩;subst e2 he;go_wp2_with fail;go_meet
         case rel=>exact ⟨rfl,rfl⟩
        ·have e2:c2=false:=by cases c2 with | false=>rfl | true=>exact absurd (F4.1 rfl).2 he
         subst e2
         have nX:(x == at')=false:=by simp [he]
         go_wp2_with fail;go_meet
         case rel=>exact ⟨rfl,rfl⟩
       ·have e2:c2=false:=by cases c2 with | false=>rfl | true=>exact absurd (F4.1 rfl).1 ii
        subst e2
        have AS:¬ (i:Int) < (n:Int):=by omega
        go_wp2_with fail;go_meet
        case rel=>exact ⟨rfl,rfl⟩
      case rest =>
       obtain ⟨rfl,nl⟩:=hcut;subst nl
       rename World=>w7
       go_upto_if 65 with fail
       go_cut [8] from 15 to 114 (fun s wx=>s = .int .i64 (i':Int)/\wx=w7)
       case first =>
        cases c2 with
        | true =>
         have e:=F5.out rfl;go_wp2_with fail;go_meet
         case rel=>exact ⟨by rw [e];go_num,rfl⟩
        | false =>
         have e:=F6.out rfl;go_wp2_with fail;go_meet
         case rel=>exact ⟨by rw [e],rfl⟩
       case rest =>
        obtain ⟨rfl,nl⟩:=hcut;subst nl;clear F4 F5 F6
        rename World=>w7
        go_upto_region 11 with fail
        go_cut [79] from 15 to 114 (fun c wx=>c = .bool c3/\wx=w7)
        case first =>
         by_cases ii:j < m
         ·obtain ⟨da,mT,q1⟩:=tw.out ii;subst mT;by_cases he:y=at'
          ·have e2:c3=true:=F7.2 ⟨ii,he⟩;subst e2 he;go_wp2_with fail;go_meet
           case rel=>exact ⟨rfl,rfl⟩
          ·have e2:c3=false:=by cases c3 with | false=>rfl | true=>exact absurd (F7.1 rfl).2 he
           subst e2
           have nX:(y == at')=false:=by simp [he]
           go_wp2_with fail;go_meet
           case rel=>exact ⟨rfl,rfl⟩
         ·have e2:c3=false:=by cases c3 with | false=>rfl | true=>exact absurd (F7.1 rfl).1 ii
          subst e2
          have AS:¬ (j:Int) < (m:Int):=by omega
          go_wp2_with fail;go_meet
          case rel=>exact ⟨rfl,rfl⟩
        case rest =>
         obtain ⟨rfl,nl⟩:=hcut;subst nl
         rename World=>w7
         go_upto_if 79 with fail
         go_cut [9] from 15 to 114 (fun s wx=>s = .int .i64 (j':Int)/\wx=w7)
         case first =>
          cases c3 with
          | true =>
           have e:=F8.out rfl;go_wp2_with fail;go_meet
           case rel=>exact ⟨by rw [e];go_num,rfl⟩
          | false =>
           have e:=F9.out rfl;go_wp2_with fail;go_meet
           case rel=>exact ⟨by rw [e],rfl⟩
         case rest =>
          obtain ⟨rfl,nl⟩:=hcut;subst nl;clear F7 F8 F9 mj tw
          rename World=>w7
          obtain ⟨px,IH⟩:∃ px:Bool,Hid (decide (i' % 2=1)=px):=⟨_,rfl⟩;obtain ⟨py,Jz⟩:∃ py:Bool,Hid (decide (j' % 2=1)=py):=⟨_,rfl⟩;have p1:=zh2 i';have p2:=zh2 j';rw [IH.out] at p1;rw [Jz.out] at p2;have BH:=hide (And.intro p1 p2);clear p1 p2;obtain ⟨nw,Iv⟩:∃ nw:Bool,Hid (rul k px py=nw):=⟨_,rfl⟩;rw [IH.out,Jz.out,Iv.out] at mZ;go_upto_region 13 with fail
          go_cut [12,13] from 15 to 114 (fun s t wx=>s = .bool px/\t = .bool py/\wx=w7)
          case first =>
           go_wp2_with fail;go_meet
           case rel=>exact ⟨congrArg Value.bool BH.1,congrArg Value.bool BH.2,rfl⟩
          case rest =>
          obtain ⟨rfl,rfl,nl⟩:=hcut;subst nl
          rename World=>w7
          clear BH IH Jz;go_upto_region 14 with fail
          go_cut [14] from 15 to 114 (fun s wx=>s = .bool nw/\wx=w7)
          case first =>
           have DW:=Iv.out;subst DW;rcases HK.out with h | h
           ·subst h
            cases px <;> cases py <;> (go_wp2_with fail;go_meet;case rel=>exact ⟨rfl,rfl⟩)
           ·subst h
            cases px <;> cases py <;> (go_wp2_with fail;go_meet;case rel=>exact ⟨rfl,rfl⟩)
          case rest =>
           obtain ⟨rfl,nl⟩:=hcut;subst nl
           rename World=>w7
           clear Iv
           cases nw <;> cases b
           ·have HN:=hide (mZ.1 rfl);go_wp2_with fail;go_roundw
            case rel=>exact ⟨i',j',ao,cap,l,acc,_,f11,f12,by omega,rfl,rfl,rfl,rfl,fW.out,fj.out,HN.out⟩
            case measure=>simp [intOf];omega
           ·have HN:=hide (mZ.2 (by decide));go_wp2_with (at_builtin;refine (fj.later (ze w7 _)).append [at'] ⟨w7.heap.size,0,none⟩ 1 1 (eJ w7 at' _ rfl 3) (by rw [fW.out];omega) rfl (.tmp 110) (.tmp 112) rfl l fW.out rfl rfl ?_;intro ao8 c8 v8 O8 _ _;have eO:=hide O8;clear O8);go_roundw
            case rel=>exact ⟨i',j',ao8,c8,l+1,acc++[at'],false,f11,f12,by omega,rfl,rfl,rfl,rfl,by rw [List.length_append,fW.out];rfl,eO.out,HN.out⟩
            case measure=>simp [intOf];omega
           ·have HN:=hide (mZ.2 (by decide));go_wp2_with (at_builtin;refine (fj.later (ze w7 _)).append [at'] ⟨w7.heap.size,0,none⟩ 1 1 (eJ w7 at' _ rfl 3) (by rw [fW.out];omega) rfl (.tmp 110) (.tmp 112) rfl l fW.out rfl rfl ?_;intro ao8 c8 v8 O8 _ _;have eO:=hide O8;clear O8);go_roundw
            case rel=>exact ⟨i',j',ao8,c8,l+1,acc++[at'],true,f11,f12,by omega,rfl,rfl,rfl,rfl,by rw [List.length_append,fW.out];rfl,eO.out,HN.out⟩
            case measure=>simp [intOf];omega
           ·have HN:=hide (mZ.1 rfl);go_wp2_with fail;go_roundw
            case rel=>exact ⟨i',j',ao,cap,l,acc,_,f11,f12,by omega,rfl,rfl,rfl,rfl,fW.out,fj.out,HN.out⟩
            case measure=>simp [intOf];omega
  ·have ii:¬ (i:Int) < (n:Int):=by omega
   have o9:¬ (j:Int) < (m:Int):=by omega
   have ei:(tn A).length=i:=by rw [mN.out];omega
   have ej:(tn B).length=j:=by rw [mM.out];omega
   have Fv:=HI.2.2;rw [<- ei,<- ej] at Fv;obtain ⟨X,hX,hC⟩:=Fv.done HF.1 HF.2;obtain ⟨S3,f3,_,_⟩:=HI.2.1.src;have e3:=HI.1;rw [e3] at S3;rw [hX] at S3;have HG:Hid (sH w w6 (.returned (.slice ao l cap)) k A B):=⟨ao,l,cap,X,rfl,S3,f3,HI.2.1.below,hC⟩;clear S3 f3 e3 hX hC Fv ei ej HI;go_wp2_with fail;go_ret;exact HG.out
end Go.Proofs.YtjffpimfngdggaaGreat
