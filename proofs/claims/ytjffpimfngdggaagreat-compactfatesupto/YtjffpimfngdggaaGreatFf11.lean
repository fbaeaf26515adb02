/- LSku LRSku LEnt LCmp LRow -/
import Derived.Test.YtjffpimfngdggaaGreatFf10
import Derived.Deep.RegionHeld
import Derived.Lib.QuietBelow
import Derived.Laws.Cells
import Derived.Laws.Tables
import Derived.Laws.CopyOwn
set_option maxHeartbeats 1600000
namespace Go.Proofs.YtjffpimfngdggaaGreat.K
section
open Go.RowKit

def mk (c:UInt8):Bool:=((c.toNat:Int) == 45) || ((c.toNat:Int) == 46)
def lt (c:UInt8):Bool:=decide (65 <= (c.toNat:Int)) && decide ((c.toNat:Int) <= 90)

theorem xT (c:UInt8) (w:World):Calls Tryz.prog 214 #[.int .u8 (c.toNat:Int)] w fun e w'=>e = .returned (.bool (mk c))/\w'=w:=by
 by_cases h:(c.toNat:Int)=45
 ·have h':((c.toNat:Int) == 45)=true:=by simpa using h
  have HM:Hid (mk c=true):=by show _=_;unfold mk;rw [h'];rfl
  clear h;go_enter Tryz.func214,Tryz.ntmps214;go_wp2;go_ret;exact ⟨zt HM.symm,rfl⟩
 ·have h':((c.toNat:Int) == 45)=false:=by simpa using h
  have HM:Hid (((c.toNat:Int) == 46)=mk c):=by show _=_;unfold mk;rw [h'];rfl
  clear h;go_enter Tryz.func214,Tryz.ntmps214;go_wp2;go_ret;exact ⟨zt HM,rfl⟩
theorem vY (c:UInt8) (w:World):Calls Tryz.prog 215 #[.int .u8 (c.toNat:Int)] w fun e w'=>e = .returned (.bool (lt c))/\w'=w:=by
 by_cases h:65 <= (c.toNat:Int)
 ·have HM:Hid (decide ((c.toNat:Int) <= 90)=lt c):=by show _=_;unfold lt;rw [decide_eq_true h,Bool.true_and]
  go_enter Tryz.func215,Tryz.ntmps215;go_wp2;go_ret;exact ⟨zt HM,rfl⟩
 ·have HM:Hid (false=lt c):=by show _=_;unfold lt;rw [decide_eq_false h,Bool.false_and]
  go_enter Tryz.func215,Tryz.ntmps215;go_wp2;go_ret;exact ⟨zt HM,rfl⟩
theorem zcp (c:UInt8) (w:World):Calls Tryz.prog 216 #[.int .u8 (c.toNat:Int)] w fun e w'=>e = .returned (.bool (dig c))/\w'=w:=by
 by_cases h:48 <= (c.toNat:Int)
 ·have HM:Hid (decide ((c.toNat:Int) <= 57)=dig c):=by show _=_;unfold dig;rw [decide_eq_true h,Bool.true_and]
  go_enter Tryz.func216,Tryz.ntmps216;go_wp2;go_ret;exact ⟨zt HM,rfl⟩
 ·have HM:Hid (false=dig c):=by show _=_;unfold dig;rw [decide_eq_false h,Bool.false_and]
  go_enter Tryz.func216,Tryz.ntmps216;go_wp2;go_ret;exact ⟨zt HM,rfl⟩

def cO (l:List UInt8) (i:Nat):Bool:=
 if mk (l.getD i 0)=true then (decide (0 < i) && decide (i+1 < l.length)) && !mk (l.getD (i - 1) 0) else lt (l.getD i 0) || dig (l.getD i 0)
theorem qI (s:ByteArray) (i:Nat) (h:i < s.size):s.data.toList.getD i 0=s[i]:=by
 rw [List.getD,List.getElem?_eq_getElem (by simpa using h)];rfl
theorem jQ (s:ByteArray):s.data.toList.length=s.size:=by simp

theorem wf (s:ByteArray) (i:Nat) (w:World) (hi:i < s.size) (hs:s.size <= 1000):Calls Tryz.prog 177 #[.string s,.int .i64 i] w fun e w'=>e = .returned (.bool (cO s.data.toList i))/\w'=w:=by
 cases hm:mk s[i] with
 | true =>
  have HM:=hide hm;clear hm;by_cases h0:0 < i
  ·by_cases h1:i+1 < s.size
   ·have HS:Hid ((!mk (s[i - 1]'(by omega)))=cO s.data.toList i):=by
     show _=_
     unfold cO;rw [qI s i hi,qI s (i - 1) (by omega),jQ,if_pos HM.out,decide_eq_true h0,decide_eq_true h1];rfl
    have hz:((i:Int) - 1).toNat=i - 1:=by omega
    have nL:(i:Int) < (s.size:Int) - 1:=by omega
    have hK:=hide (xT (s[i - 1]'(by omega)));obtain ⟨x,hx⟩:∃ x:Int,((s[i - 1]'(by omega)).toNat:Int)=x:=⟨_,rfl⟩;rw [hx] at hK;go_enter Tryz.func177,Tryz.ntmps177;go_wp2_with fail;refine (xT s[i] _).mono ?_;rintro e w' ⟨rfl,rfl⟩;rw [HM.out];go_wp2_with fail;refine (hK.out _).mono ?_;rintro e w' ⟨rfl,rfl⟩;go_wp2;go_ret;exact ⟨zt HS,rfl⟩
   ·have HS:Hid (false=cO s.data.toList i):=by
     show _=_
     unfold cO;rw [qI s i hi,jQ,if_pos HM.out,decide_eq_true h0,decide_eq_false h1];rfl
    have nL:¬ (i:Int) < (s.size:Int) - 1:=by omega
    go_enter Tryz.func177,Tryz.ntmps177;go_wp2_with fail;refine (xT s[i] _).mono ?_;rintro e w' ⟨rfl,rfl⟩;rw [HM.out];go_wp2;go_ret;exact ⟨zt HS,rfl⟩
  ·have HS:Hid (false=cO s.data.toList i):=by
    show _=_
    unfold cO;rw [qI s i hi,jQ,if_pos HM.out,decide_eq_false h0];rfl
   obtain rfl:i=0:=by omega
   go_enter Tryz.func177,Tryz.ntmps177;go_wp2_with fail;refine (xT s[0] _).mono ?_;rintro e w' ⟨rfl,rfl⟩;rw [HM.out];go_wp2;go_ret;exact ⟨zt HS,rfl⟩
 | false =>
  have HM:=hide hm;clear hm
  cases hl:lt s[i] with
  | true =>
   have lW:=hide hl;clear hl
   have HS:Hid (true=cO s.data.toList i):=by
    show _=_
    unfold cO;rw [qI s i hi,if_neg (by rw [HM.out];simp),lW.out];rfl
   go_enter Tryz.func177,Tryz.ntmps177;go_wp2_with (first | (go_at_call 214;refine (xT s[i] _).mono ?_;rintro e w' ⟨rfl,rfl⟩;rw [HM.out]) | (go_at_call 215;refine (vY s[i] _).mono ?_;rintro e w' ⟨rfl,rfl⟩;rw [lW.out]));go_ret;exact ⟨zt HS,rfl⟩
  | false =>
   have lW:=hide hl;clear hl
   have HS:Hid (dig s[i]=cO s.data.toList i):=by
    show _=_
    unfold cO;rw [qI s i hi,if_neg (by rw [HM.out];simp),lW.out];rfl
   go_enter Tryz.func177,Tryz.ntmps177;go_wp2_with (first | (go_at_call 214;refine (xT s[i] _).mono ?_;rintro e w' ⟨rfl,rfl⟩;rw [HM.out]) | (go_at_call 215;refine (vY s[i] _).mono ?_;rintro e w' ⟨rfl,rfl⟩;rw [lW.out]) | (go_at_call 216;refine (zcp s[i] _).mono ?_;rintro e w' ⟨rfl,rfl⟩));go_ret;exact ⟨zt HS,rfl⟩

def fM (l:List UInt8) (k:Nat):Bool:=(List.range k).all (cO l)
def ckE (l:List UInt8):Int:=if l.length=0 then 20 else if 24 < l.length then 21 else if fM l l.length=true then 0 else 22
theorem wS (l:List UInt8) (k:Nat):fM l (k+1)=(fM l k && cO l k):=by
 unfold fM;rw [List.range_succ,List.all_append];simp
theorem za7 (l:List UInt8) (k n:Nat) (h:k < n) (hs:cO l k=false):fM l n=false:=by
 unfold fM;rw [List.all_eq_false];exact ⟨k,by simpa using h,by rw [hs];simp⟩

theorem zfS (s:ByteArray) (w:World) (hs:s.size <= maxLen):Calls Tryz.prog 139 #[.string s] w fun e w'=>(∃ p:Int,e = .returned (.tuple #[.int .i64 p,.int .i64 (ckE s.data.toList)]))/\w'=w:=by
 unfold maxLen at hs;by_cases h0:s.size=0
 ·have he:=jc s h0
  have HE:Hid (ckE s.data.toList=20):=by show _=_;unfold ckE;rw [jQ,if_pos h0]
  go_enter Tryz.func139,Tryz.ntmps139;go_wp2;go_ret2;exact ⟨⟨0,jV rfl HE.symm⟩,rfl⟩
 have he:=jP s h0;by_cases h24:24 < s.size
 ·have HE:Hid (ckE s.data.toList=21):=by show _=_;unfold ckE;rw [jQ,if_neg h0,if_pos h24]
  have BF:(24:Int) < s.size:=by omega
  go_enter Tryz.func139,Tryz.ntmps139;go_wp2;go_ret2;exact ⟨⟨0,jV rfl HE.symm⟩,rfl⟩
 have BF:¬ (24:Int) < s.size:=by omega
 have HE:Hid (ckE s.data.toList=if fM s.data.toList s.size=true then 0 else 22):=by show _=_;unfold ckE;rw [jQ,if_neg h0,if_neg h24]
 go_enter Tryz.func139,Tryz.ntmps139;go_wp2;go_loop [12] (fun i=>∃ k:Nat,k <= s.size/\i = .int .i64 k/\Hid (fM s.data.toList k=true)) (fun i=>s.size - (intOf i).toNat)
 case atStart=>exact ⟨0,Nat.zero_le _,rfl,rfl⟩
 case round =>
  obtain ⟨k,hk,rfl,HK⟩:=hrel;by_cases ak:k < s.size
  ·cases cd:cO s.data.toList k with
   | true =>
    have mZ:=hide cd;clear cd;go_wp2_with (go_at_call 177;refine (wf s k _ ak (by omega)).mono ?_;rintro e w' ⟨rfl,rfl⟩;rw [mZ.out]);go_round
    case rel=>exact ⟨k+1,by omega,by go_num,by show _=_;rw [wS,HK.out,mZ.out];rfl⟩
    case measure=>simp [intOf];omega
   | false =>
    have mZ:=hide cd;clear cd
    have HF:Hid (ckE s.data.toList=22):=by show _=_;rw [HE.out,za7 _ k _ ak mZ.out];rfl
    go_wp2_with (go_at_call 177;refine (wf s k _ ak (by omega)).mono ?_;rintro e w' ⟨rfl,rfl⟩;rw [mZ.out]);go_ret2;exact ⟨⟨k,jV rfl HF.symm⟩,rfl⟩
  ·obtain rfl:k=s.size:=by omega
   have HF:Hid (ckE s.data.toList=0):=by show _=_;rw [HE.out,if_pos HK.out]
   go_wp2;go_ret2;exact ⟨⟨0,jV rfl HF.symm⟩,rfl⟩

def eQ (l:List UInt8):Bool:=ckE l == 0
theorem jN (s:ByteArray) (w:World) (hs:s.size <= maxLen):Calls Tryz.prog 86 #[.string s] w fun e w'=>e = .returned (.bool (eQ s.data.toList))/\w'=w:=by
 have HS:=hide hs;clear hs;go_enter Tryz.func86,Tryz.ntmps86;go_wp2_with (go_at_call 139;refine (zfS s _ HS).mono ?_;rintro e w' ⟨⟨p,rfl⟩,rfl⟩);go_ret;exact ⟨rfl,rfl⟩
end
section
open Go.RowKit

theorem xZ (c:UInt8) (w:World):Calls Tryz.prog 180 #[.int .u8 (c.toNat:Int)] w fun e w'=>e = .returned (.bool (mk c))/\w'=w:=by
 by_cases h:(c.toNat:Int)=45
 ·have h':((c.toNat:Int) == 45)=true:=by simpa using h
  have HM:Hid (mk c=true):=by show _=_;unfold mk;rw [h'];rfl
  clear h;go_enter Tryz.func180,Tryz.ntmps180;go_wp2;go_ret;exact ⟨zt HM.symm,rfl⟩
 ·have h':((c.toNat:Int) == 45)=false:=by simpa using h
  have HM:Hid (((c.toNat:Int) == 46)=mk c):=by show _=_;unfold mk;rw [h'];rfl
  clear h;go_enter Tryz.func180,Tryz.ntmps180;go_wp2;go_ret;exact ⟨zt HM,rfl⟩
theorem qS (c:UInt8) (w:World):Calls Tryz.prog 178 #[.int .u8 (c.toNat:Int)] w fun e w'=>e = .returned (.bool (lt c))/\w'=w:=by
 by_cases h:65 <= (c.toNat:Int)
 ·have HM:Hid (decide ((c.toNat:Int) <= 90)=lt c):=by show _=_;unfold lt;rw [decide_eq_true h,Bool.true_and]
  go_enter Tryz.func178,Tryz.ntmps178;go_wp2;go_ret;exact ⟨zt HM,rfl⟩
 ·have HM:Hid (false=lt c):=by show _=_;unfold lt;rw [decide_eq_false h,Bool.false_and]
  go_enter Tryz.func178,Tryz.ntmps178;go_wp2;go_ret;exact ⟨zt HM,rfl⟩
theorem xB (c:UInt8) (w:World):Calls Tryz.prog 179 #[.int .u8 (c.toNat:Int)] w fun e w'=>e = .returned (.bool (dig c))/\w'=w:=by
 by_cases h:48 <= (c.toNat:Int)
 ·have HM:Hid (decide ((c.toNat:Int) <= 57)=dig c):=by show _=_;unfold dig;rw [decide_eq_true h,Bool.true_and]
  go_enter Tryz.func179,Tryz.ntmps179;go_wp2;go_ret;exact ⟨zt HM,rfl⟩
 ·have HM:Hid (false=dig c):=by show _=_;unfold dig;rw [decide_eq_false h,Bool.false_and]
  go_enter Tryz.func179,Tryz.ntmps179;go_wp2;go_ret;exact ⟨zt HM,rfl⟩
theorem zh5 (c:UInt8) (h:lt c || dig c=true):mk c=false:=by
 unfold mk;unfold lt dig at h;generalize (c.toNat:Int)=x at h ⊢;simp at h ⊢;omega

theorem kO (s:ByteArray) (i:Nat) (w:World) (hi:i < s.size) (hs:s.size <= 1000):Calls Tryz.prog 140 #[.string s,.int .i64 i] w fun e w'=>e = .returned (.bool (cO s.data.toList i))/\w'=w:=by
 cases hl:lt s[i] with
 | true =>
  have lW:=hide hl
  have HS:Hid (true=cO s.data.toList i):=by
   show _=_
   unfold cO;rw [qI s i hi,if_neg (by rw [zh5 _ (by rw [hl];rfl)];simp),hl];rfl
  clear hl;go_enter Tryz.func140,Tryz.ntmps140;go_wp2_with (go_at_call 178;refine (qS s[i] _).mono ?_;rintro e w' ⟨rfl,rfl⟩;rw [lW.out]);go_ret;exact ⟨zt HS,rfl⟩
 | false =>
  have lW:=hide hl;clear hl
  cases hd:dig s[i] with
  | true =>
   have HD:=hide hd
   have HS:Hid (true=cO s.data.toList i):=by
    show _=_
    unfold cO;rw [qI s i hi,if_neg (by rw [zh5 _ (by rw [hd];simp)];simp),hd];simp
   clear hd;go_enter Tryz.func140,Tryz.ntmps140;go_wp2_with (first | (go_at_call 178;refine (qS s[i] _).mono ?_;rintro e w' ⟨rfl,rfl⟩;rw [lW.out]) | (go_at_call 179;refine (xB s[i] _).mono ?_;rintro e w' ⟨rfl,rfl⟩;rw [HD.out]));go_ret;exact ⟨zt HS,rfl⟩
  | false =>
   have HD:=hide hd;clear hd
   cases hm:mk s[i] with
   | false =>
    have HM:=hide hm;clear hm
    have HS:Hid (false=cO s.data.toList i):=by
     show _=_
     unfold cO;rw [qI s i hi,if_neg (by rw [HM.out];simp),lW.out,HD.out];rfl
    go_enter Tryz.func140,Tryz.ntmps140;go_wp2_with (first | (go_at_call 178;refine (qS s[i] _).mono ?_;rintro e w' ⟨rfl,rfl⟩;rw [lW.out]) | (go_at_call 179;refine (xB s[i] _).mono ?_;rintro e w' ⟨rfl,rfl⟩;rw [HD.out]) | (go_at_call 180;refine (xZ s[i] _).mono ?_;rintro e w' ⟨rfl,rfl⟩;rw [HM.out]));go_ret;exact ⟨zt HS,rfl⟩
   | true =>
    have HM:=hide hm;clear hm;by_cases h0:i=0
    ·have HS:Hid (false=cO s.data.toList i):=by
      show _=_
      unfold cO;rw [qI s i hi,if_pos HM.out,decide_eq_false (by omega)];rfl
     subst h0;go_enter Tryz.func140,Tryz.ntmps140;go_wp2_with (first | (go_at_call 178;refine (qS s[0] _).mono ?_;rintro e w' ⟨rfl,rfl⟩;rw [lW.out]) | (go_at_call 179;refine (xB s[0] _).mono ?_;rintro e w' ⟨rfl,rfl⟩;rw [HD.out]) | (go_at_call 180;refine (xZ s[0] _).mono ?_;rintro e w' ⟨rfl,rfl⟩;rw [HM.out]));go_ret;exact ⟨zt HS,rfl⟩
    ·have mS:((i:Int) == 0)=false:=by simpa using h0
     by_cases h1:i+1 < s.size
     ·have HS:Hid ((!mk (s[i - 1]'(by omega)))=cO s.data.toList i):=by
       show _=_
       unfold cO;rw [qI s i hi,qI s (i - 1) (by omega),jQ,if_pos HM.out,decide_eq_true (by omega),decide_eq_true h1];rfl
      have hz:((i:Int) - 1).toNat=i - 1:=by omega
      have nL:((i:Int) == (s.size:Int) - 1)=false:=by simp;omega
      have hK:=hide (xZ (s[i - 1]'(by omega)));obtain ⟨x,hx⟩:∃ x:Int,((s[i - 1]'(by omega)).toNat:Int)=x:=⟨_,rfl⟩;rw [hx] at hK
      have cW:1 <= i:=by omega
      clear h0;go_enter Tryz.func140,Tryz.ntmps140;go_wp2_with (first | (go_at_call 178;refine (qS s[i] _).mono ?_;rintro e w' ⟨rfl,rfl⟩;rw [lW.out]) | (go_at_call 179;refine (xB s[i] _).mono ?_;rintro e w' ⟨rfl,rfl⟩;rw [HD.out]));refine (xZ s[i] _).mono ?_;rintro e w' ⟨rfl,rfl⟩;rw [HM.out];go_wp2_with fail;refine (hK.out _).mono ?_;rintro e w' ⟨rfl,rfl⟩;go_wp2;go_ret;exact ⟨zt HS,rfl⟩
     ·have HS:Hid (false=cO s.data.toList i):=by
       show _=_
       unfold cO;rw [qI s i hi,jQ,if_pos HM.out,decide_eq_false h1];simp
      have nL:((i:Int) == (s.size:Int) - 1)=true:=by simp;omega
      clear h0;go_enter Tryz.func140,Tryz.ntmps140;go_wp2_with (first | (go_at_call 178;refine (qS s[i] _).mono ?_;rintro e w' ⟨rfl,rfl⟩;rw [lW.out]) | (go_at_call 179;refine (xB s[i] _).mono ?_;rintro e w' ⟨rfl,rfl⟩;rw [HD.out]));refine (xZ s[i] _).mono ?_;rintro e w' ⟨rfl,rfl⟩;rw [HM.out];go_wp2;go_ret;exact ⟨zt HS,rfl⟩

theorem zbl (s:ByteArray) (w:World) (hs:s.size <= maxLen):Calls Tryz.prog 89 #[.string s] w fun e w'=>(∃ p:Int,e = .returned (.tuple #[.int .i64 p,.int .i64 (ckE s.data.toList)]))/\w'=w:=by
 unfold maxLen at hs;by_cases h0:s.size=0
 ·have mS:((s.size:Int) == 0)=true:=by simpa using h0
  have HE:Hid (ckE s.data.toList=20):=by show _=_;unfold ckE;rw [jQ,if_pos h0]
  go_enter Tryz.func89,Tryz.ntmps89;go_wp2;go_ret2;exact ⟨⟨0,jV rfl HE.symm⟩,rfl⟩
 have mS:((s.size:Int) == 0)=false:=by simpa using h0
 by_cases h24:24 < s.size
 ·have HE:Hid (ckE s.data.toList=21):=by show _=_;unfold ckE;rw [jQ,if_neg h0,if_pos h24]
  have BF:(24:Int) < s.size:=by omega
  clear h0;go_enter Tryz.func89,Tryz.ntmps89;go_wp2;go_ret2;exact ⟨⟨0,jV rfl HE.symm⟩,rfl⟩
 have BF:¬ (24:Int) < s.size:=by omega
 have HE:Hid (ckE s.data.toList=if fM s.data.toList s.size=true then 0 else 22):=by show _=_;unfold ckE;rw [jQ,if_neg h0,if_neg h24]
 clear h0;go_enter Tryz.func89,Tryz.ntmps89;go_wp2;go_loop [4] (fun i=>∃ k:Nat,k <= s.size/\i = .int .i64 k/\Hid (fM s.data.toList k=true)) (fun i=>s.size - (intOf i).toNat)
 case atStart=>exact ⟨0,Nat.zero_le _,rfl,rfl⟩
 case round =>
  obtain ⟨k,hk,rfl,HK⟩:=hrel;by_cases ak:k < s.size
  ·cases cd:cO s.data.toList k with
   | true =>
    have mZ:=hide cd;clear cd;go_wp2_with (go_at_call 140;refine (kO s k _ ak (by omega)).mono ?_;rintro e w' ⟨rfl,rfl⟩;rw [mZ.out]);go_round
    case rel=>exact ⟨k+1,by omega,by go_num,by show _=_;rw [wS,HK.out,mZ.out];rfl⟩
    case measure=>simp [intOf];omega
   | false =>
    have mZ:=hide cd;clear cd
    have HF:Hid (ckE s.data.toList=22):=by show _=_;rw [HE.out,za7 _ k _ ak mZ.out];rfl
    go_wp2_with (go_at_call 140;refine (kO s k _ ak (by omega)).mono ?_;rintro e w' ⟨rfl,rfl⟩;rw [mZ.out]);go_ret2;exact ⟨⟨k,jV rfl HF.symm⟩,rfl⟩
  ·obtain rfl:k=s.size:=by omega
   have HF:Hid (ckE s.data.toList=0):=by show _=_;rw [HE.out,if_pos HK.out]
   go_wp2;go_ret2;exact ⟨⟨0,jV rfl HF.symm⟩,rfl⟩
theorem jF (s:ByteArray) (w:World) (hs:s.size <= maxLen):Calls Tryz.prog 48 #[.string s] w fun e w'=>e = .returned (.bool (eQ s.data.toList))/\w'=w:=by
 have HS:=hide hs;clear hs;go_enter Tryz.func48,Tryz.ntmps48;go_wp2_with (go_at_call 89;refine (zbl s _ HS).mono ?_;rintro e w' ⟨⟨p,rfl⟩,rfl⟩);go_ret;exact ⟨rfl,rfl⟩
end
section
open Go.RowKit

structure En where
 rep:Int
 num:Int
 sku:ByteArray
 qty:Int
def enC (e:En):List Value:=[.int .i64 e.rep,.int .i64 e.num,.string e.sku,.int .i64 e.qty]
abbrev enV (e:En):Value:=.agg #[.int .i64 e.rep,.int .i64 e.num,.string e.sku,.int .i64 e.qty]
def isR (r:Int):Bool:=decide (0 <= r) && decide (r < 16)
def ceE (e:En):Int:=if isR e.rep=false then 3 else if e.num < 1∨1000000000 < e.num then 2 else if eQ e.sku.data.toList=false then 5 else if e.qty < 1∨1000000 < e.qty then 6 else 0

theorem qz (r:Int) (w:World):Calls Tryz.prog 157 #[.int .i64 r] w fun e w'=>e = .returned (.bool (isR r))/\w'=w:=by
 go_enter Tryz.func157,Tryz.ntmps157;by_cases h0:0 <= r
 ·have HR:Hid (isR r=decide (r < 16)):=by show _=_;unfold isR;rw [decide_eq_true h0,Bool.true_and]
  go_wp2;go_ret;exact ⟨zt HR.symm,rfl⟩
 ·have HR:Hid (isR r=false):=by show _=_;unfold isR;rw [decide_eq_false h0,Bool.false_and]
  go_wp2;go_ret;exact ⟨zt HR.symm,rfl⟩

theorem yW (e:En) (w:World) (hs:e.sku.size <= maxLen):Calls Tryz.prog 103 #[enV e] w fun x w'=>x = .returned (.int .i64 (ceE e))/\Below w.heap.size w w':=by
 obtain ⟨r,m,s,q⟩:=e;have HB:Hid (Below w.heap.size w (w.alloc (.cells #[.int .i64 r,.int .i64 m,.string s,.int .i64 q] 50))):=(Below.refl _ _).alloc (Nat.le_refl _) _;have HS:Hid (s.size <= maxLen):=hs;clear hs;obtain ⟨x,Hx⟩:∃ x,Hid (isR r=x):=⟨_,rfl⟩;obtain ⟨g,Hg⟩:∃ g,Hid (eQ s.data.toList=g):=⟨_,rfl⟩
 cases x with
 | false =>
  have HF:Hid (ceE ⟨r,m,s,q⟩=3):=by show _=_;unfold ceE;rw [if_pos Hx.out]
  go_enter Tryz.func103,Tryz.ntmps103;go_wp2_with (go_at_call 157;refine (qz r _).mono ?_;rintro e w' ⟨rfl,rfl⟩;rw [Hx.out]);go_ret;exact ⟨zK HF.symm,HB.out⟩
 | true =>
  have nR:0 <= r/\r < 16:=by have:=Hx.out;unfold isR at this;simpa using this
  have oz:¬ isR r=false:=by rw [Hx.out];simp
  by_cases h1:m < 1
  ·have HF:Hid (ceE ⟨r,m,s,q⟩=2):=by show _=_;unfold ceE;rw [if_neg oz,if_pos (Or.inl h1)]
   clear oz;go_enter Tryz.func103,Tryz.ntmps103;go_wp2_with (go_at_call 157;refine (qz r _).mono ?_;rintro e w' ⟨rfl,rfl⟩;rw [Hx.out]);go_ret;exact ⟨zK HF.symm,HB.out⟩
  by_cases h2:1000000000 < m
  ·have HF:Hid (ceE ⟨r,m,s,q⟩=2):=by show _=_;unfold ceE;rw [if_neg oz,if_pos (Or.inr h2)]
   clear oz;go_enter Tryz.func103,Tryz.ntmps103;go_wp2_with (go_at_call 157;refine (qz r _).mono ?_;rintro e w' ⟨rfl,rfl⟩;rw [Hx.out]);go_ret;exact ⟨zK HF.symm,HB.out⟩
  have o7:¬ (m < 1∨1000000000 < m):=by omega
  cases g with
  | false =>
   have HF:Hid (ceE ⟨r,m,s,q⟩=5):=by show _=_;unfold ceE;rw [if_neg oz,if_neg o7,if_pos Hg.out]
   clear oz o7;go_enter Tryz.func103,Tryz.ntmps103;go_wp2_with (first | (go_at_call 157;refine (qz r _).mono ?_;rintro e w' ⟨rfl,rfl⟩;rw [Hx.out]) | (go_at_call 86;refine (jN s _ HS).mono ?_;rintro e w' ⟨rfl,rfl⟩;rw [Hg.out]));go_ret;exact ⟨zK HF.symm,HB.out⟩
  | true =>
   have lV:¬ eQ s.data.toList=false:=by rw [Hg.out];simp
   by_cases h3:q < 1
   ·have HF:Hid (ceE ⟨r,m,s,q⟩=6):=by show _=_;unfold ceE;rw [if_neg oz,if_neg o7,if_neg lV,if_pos (Or.inl h3)]
    clear oz o7 lV;go_enter Tryz.func103,Tryz.ntmps103;go_wp2_with (first | (go_at_call 157;refine (qz r _).mono ?_;rintro e w' ⟨rfl,rfl⟩;rw [Hx.out]) | (go_at_call 86;refine (jN s _ HS).mono ?_;rintro e w' ⟨rfl,rfl⟩;rw [Hg.out]));go_ret;exact ⟨zK HF.symm,HB.out⟩
   by_cases h4:1000000 < q
   ·have HF:Hid (ceE ⟨r,m,s,q⟩=6):=by show _=_;unfold ceE;rw [if_neg oz,if_neg o7,if_neg lV,if_pos (Or.inr h4)]
    clear oz o7 lV;go_enter Tryz.func103,Tryz.ntmps103;go_wp2_with (first | (go_at_call 157;refine (qz r _).mono ?_;rintro e w' ⟨rfl,rfl⟩;rw [Hx.out]) | (go_at_call 86;refine (jN s _ HS).mono ?_;rintro e w' ⟨rfl,rfl⟩;rw [Hg.out]));go_ret;exact ⟨zK HF.symm,HB.out⟩
   have m7:¬ (q < 1∨1000000 < q):=by omega
   have HF:Hid (ceE ⟨r,m,s,q⟩=0):=by show _=_;unfold ceE;rw [if_neg oz,if_neg o7,if_neg lV,if_neg m7]
   clear oz o7 lV m7;go_enter Tryz.func103,Tryz.ntmps103;go_wp2_with (first | (go_at_call 157;refine (qz r _).mono ?_;rintro e w' ⟨rfl,rfl⟩;rw [Hx.out]) | (go_at_call 86;refine (jN s _ HS).mono ?_;rintro e w' ⟨rfl,rfl⟩;rw [Hg.out]));go_ret;exact ⟨zK HF.symm,HB.out⟩
end
section
open Go.RowKit

def az (x y:Int):Int:=if x < y then -1 else if y < x then 1 else 0
theorem jb (x:Int) (w:World):Calls Tryz.prog 176 #[.int .i64 x] w fun e w'=>e = .returned (.bool false)/\w'=w:=by
 have h:(x != x)=false:=by simp
 go_enter Tryz.func176,Tryz.ntmps176;go_wp2_with fail;go_ret;exact ⟨by simp,rfl⟩
theorem qC (x y:Int) (w:World):Calls Tryz.prog 138 #[.int .i64 x,.int .i64 y] w fun e w'=>e = .returned (.int .i64 (az x y))/\w'=w:=by
 by_cases h1:x < y
 ·have HC:Hid (az x y = -1):=by show _=_;unfold az;rw [if_pos h1]
  go_enter Tryz.func138,Tryz.ntmps138;go_wp2_with (go_at_call 176;refine (jb _ _).mono ?_;rintro e w' ⟨rfl,rfl⟩);go_ret;exact ⟨zK HC.symm,rfl⟩
 ·by_cases h2:y < x
  ·have HC:Hid (az x y=1):=by show _=_;unfold az;rw [if_neg h1,if_pos h2]
   go_enter Tryz.func138,Tryz.ntmps138;go_wp2_with (go_at_call 176;refine (jb _ _).mono ?_;rintro e w' ⟨rfl,rfl⟩);go_ret;exact ⟨zK HC.symm,rfl⟩
  ·have HC:Hid (az x y=0):=by show _=_;unfold az;rw [if_neg h1,if_neg h2]
   go_enter Tryz.func138,Tryz.ntmps138;go_wp2_with (go_at_call 176;refine (jb _ _).mono ?_;rintro e w' ⟨rfl,rfl⟩);go_ret;exact ⟨zK HC.symm,rfl⟩
def or2 (a b:Int):Int:=if a=0 then b else a
theorem ze0 (g:Nat) (a b:Int) (w:World) (c0:w.cell? ⟨g,0,none⟩=some (.int .i64 a)) (c1:w.cell? ⟨g,1,none⟩=some (.int .i64 b)) :
  Calls Tryz.prog 137 #[.slice (some ⟨g,0,none⟩) 2 2] w fun e w'=>e = .returned (.int .i64 (or2 a b))/\w'=w:=by
 go_enter Tryz.func137,Tryz.ntmps137;go_wp2;go_loop [8] (fun i=>∃ k:Nat,k <= 2/\i = .int .i64 k/\Hid (0 < k -> a=0)/\Hid (1 < k -> b=0)) (fun i=>2 - (intOf i).toNat)
 case atStart=>exact ⟨0,Nat.zero_le _,rfl,fun h=>absurd h (by omega),fun h=>absurd h (by omega)⟩
 case round =>
  obtain ⟨k,hk,rfl,Ha,Hb⟩:=hrel;by_cases ak:k < 2
  ·obtain ⟨z,gG,Hz⟩:∃ z,w.cell? ⟨g,k,none⟩=some (.int .i64 z)/\Hid (or2 a b=if z=0/\k=0 then b else z):=by
    match k,ak,Ha with
    | 0,_,_=>exact ⟨a,c0,by show _=_;unfold or2;by_cases h:a=0 <;> simp [h]⟩
    | 1,_,Ha=>exact ⟨b,c1,by show _=_;unfold or2;rw [if_pos (Ha.out (by omega))];simp⟩
   have Dl:Hid (z=0 -> (k=0 -> a=0)/\(k=1 -> b=0)):=by
    intro hz;constructor
    ·intro h;subst h;rw [c0] at gG;simpa [hz] using gG
    ·intro h;subst h;rw [c1] at gG;simpa [hz] using gG
   clear c0 c1;by_cases h0:z=0
   ·have hA:=(Dl.out h0).1;have hB:=(Dl.out h0).2
    have HA:Hid (0 < k+1 -> a=0):=by intro _;by_cases gL:k=0;exact hA gL;exact Ha.out (by omega)
    have HB:Hid (1 < k+1 -> b=0):=by intro _;exact hB (by omega)
    have mS:(z != 0)=false:=by simpa using h0
    clear h0 hA hB;go_wp2;go_round
    case rel=>exact ⟨k+1,by omega,by go_num,HA,HB⟩
    case measure=>simp [intOf];omega
   ·have mS:(z != 0)=true:=by simpa using h0
    have HF:Hid (or2 a b=z):=by show _=_;rw [Hz.out,if_neg (by simp [h0])]
    clear h0;go_wp2;go_ret;exact ⟨zK HF.symm,rfl⟩
  ·have HF:Hid (or2 a b=0):=by show _=_;unfold or2;rw [if_pos (Ha.out (by omega))];exact Hb.out (by omega)
   clear c0 c1;go_wp2;go_ret;exact ⟨zK HF.symm,rfl⟩
def byD (x y:En):Int:=or2 (az x.rep y.rep) (az x.num y.num)
def ahead (x y:En):Bool:=decide (x.rep < y.rep) || (x.rep == y.rep && decide (x.num < y.num))
theorem bK {n:Nat} {w w':World} (h:Below n w w'):Below n w w'.drew:=h.trans ⟨rfl,rfl,rfl,Nat.le_refl _,fun _ _=>rfl⟩
theorem ze (w:World) (o:Obj):Below w.heap.size w (w.alloc o):=(Below.refl _ _).alloc (Nat.le_refl _) _
structure Two (w W:World) (x y:En):Prop where
 below:Below w.heap.size w W
 size:w.heap.size+2 <= W.heap.size
 a0:W.cell? ⟨w.heap.size,0,none⟩=some (.int .i64 x.rep)
 a1:W.cell? ⟨w.heap.size,1,none⟩=some (.int .i64 x.num)
 b0:W.cell? ⟨w.heap.size+1,0,none⟩=some (.int .i64 y.rep)
 b1:W.cell? ⟨w.heap.size+1,1,none⟩=some (.int .i64 y.num)
theorem Two.start (w:World) (x y:En):Two w ((w.alloc (.cells #[.int .i64 x.rep,.int .i64 x.num,.string x.sku,.int .i64 x.qty] 50)).alloc (.cells #[.int .i64 y.rep,.int .i64 y.num,.string y.sku,.int .i64 y.qty] 50)) x y:=
 ⟨(ze w _).trans ((ze _ _).mono (by simp)),by simp,by simp,by simp,by simp,by simp⟩
theorem Two.on {w W W':World} {x y:En} (h:Two w W x y) (hb:Below W.heap.size W W'):Two w W' x y:=
 ⟨h.below.trans (hb.mono h.below.size),Nat.le_trans h.size hb.size,(hb.cell (World.block_lt_of_cell? _ _ h.a0)).trans h.a0,(hb.cell (World.block_lt_of_cell? _ _ h.a1)).trans h.a1,(hb.cell (World.block_lt_of_cell? _ _ h.b0)).trans h.b0,(hb.cell (World.block_lt_of_cell? _ _ h.b1)).trans h.b1⟩
theorem zh4 (a b:Int) (w:World) (g:Nat) (hg:w.heap.size=g):Calls Tryz.prog 137 #[.slice (some ⟨g,0,none⟩) 2 2] (w.alloc (.cells #[.int .i64 a,.int .i64 b] 3)) fun e w'=>e = .returned (.int .i64 (or2 a b))/\w'=w.alloc (.cells #[.int .i64 a,.int .i64 b] 3):=by
 subst hg;exact ze0 w.heap.size a b _ (by simp) (by simp)
theorem zfZ (x y:En) (w:World):Calls Tryz.prog 104 #[enV x,enV y] w fun e w'=>e = .returned (.int .i64 (byD x y))/\Below w.heap.size w w':=by
 have T0:=hide (Two.start w x y);obtain ⟨w0,lY⟩:∃ w0,Hid ((w.alloc (.cells #[.int .i64 x.rep,.int .i64 x.num,.string x.sku,.int .i64 x.qty] 50)).alloc (.cells #[.int .i64 y.rep,.int .i64 y.num,.string y.sku,.int .i64 y.qty] 50)=w0):=⟨_,rfl⟩;rw [lY.out] at T0;have c1:=T0.a0;have c2:=T0.a1;have c3:=T0.b0;have c4:=T0.b1;obtain ⟨p,Hp⟩:∃ p,Hid (az x.rep y.rep=p):=⟨_,rfl⟩;obtain ⟨q,Hq⟩:∃ q,Hid (az x.num y.num=q):=⟨_,rfl⟩
 have C1:Hid (∀ W,Calls Tryz.prog 138 #[.int .i64 x.rep,.int .i64 y.rep] W fun e w'=>e = .returned (.int .i64 p)/\w'=W):=fun W=>by rw [<- Hp.out];exact qC _ _ W
 have C2:Hid (∀ W,Calls Tryz.prog 138 #[.int .i64 x.num,.int .i64 y.num] W fun e w'=>e = .returned (.int .i64 q)/\w'=W):=fun W=>by rw [<- Hq.out];exact qC _ _ W
 have HF:Hid (or2 p q=byD x y):=by show _=_;unfold byD;rw [Hp.out,Hq.out]
 have T1:Hid (Two w (w0.drew.alloc (.cells #[.int .i64 p,.int .i64 q] 3)) x y):=(T0.on (bK (Below.refl _ _))).on (ze _ _);have HO:=hide (zh4 p q w0.drew w0.heap.size rfl);obtain ⟨r,m,s,q⟩:=x;obtain ⟨r',m',s',q'⟩:=y;go_enter Tryz.func104,Tryz.ntmps104;go_wp2_with fail;rw [lY.out]
 first | (go_region_held (fun W=>W.cell? ⟨w.heap.size,0,none⟩=some (.int .i64 r)/\W.cell? ⟨w.heap.size,1,none⟩=some (.int .i64 m)/\W.cell? ⟨w.heap.size+1,0,none⟩=some (.int .i64 r')/\W.cell? ⟨w.heap.size+1,1,none⟩=some (.int .i64 m')) (first | exact ⟨T1.a0,T1.a1,T1.b0,T1.b1⟩ | go_keep) (first | (go_at_call_of 138 r;refine (C1.out _).mono ?_;rintro e w' ⟨rfl,rfl⟩) | (go_at_call_of 138 m;refine (C2.out _).mono ?_;rintro e w' ⟨rfl,rfl⟩) | (go_at_call 137;refine HO.mono ?_;rintro e w' ⟨rfl,rfl⟩))) | fail
 all_goals (go_wp2_with fail)
 all_goals go_ret
 all_goals exact ⟨zK HF,T1.below⟩
end
section
open Go.RowKit

def EC (e:En):Array Value:=#[.int .i64 e.rep,.int .i64 e.num,.string e.sku,.int .i64 e.qty]
abbrev EV (e:En):Value:=.agg (EC e)
theorem zH (e:En):(EC e).size=4:=rfl
theorem bO (e:En):∀ v∈(EC e).toList,v.oneCell'=true:=by
 intro v hv;simp [EC] at hv;rcases hv with rfl | rfl | rfl | rfl <;> rfl
theorem zu (e:En):(EV e).cells=EC e:=by simp [Value.cells]
def en0:En:=⟨0,0,⟨#[]⟩,0⟩
theorem zJ:(#[.int .i64 0,.int .i64 0,.string ⟨#[]⟩,.int .i64 0]:Array Value)=EC en0:=rfl
structure gE (w:World) (p:Addr) (e:En):Prop where
 c0:w.cell? p=some (.int .i64 e.rep)
 c1:w.cell? (p.add 1)=some (.int .i64 e.num)
 c2:w.cell? (p.add 2)=some (.string e.sku)
 c3:w.cell? (p.add 3)=some (.int .i64 e.qty)
theorem add_zero (p:Addr):p.add 0=p:=by unfold Addr.add;split <;> simp_all
theorem zs (p:Addr) (m:Nat):(p.add m).block=p.block:=by unfold Addr.add;split <;> rfl
theorem gE.on {w w':World} {p:Addr} {e:En} (S:gE w p e) (hb:Below w.heap.size w w'):gE w' p e:=by
 have h0:=World.block_lt_of_cell? _ _ S.c0;exact ⟨by rw [hb.cell h0];exact S.c0,by rw [hb.cell (by rw [zs];exact h0)];exact S.c1,by rw [hb.cell (by rw [zs];exact h0)];exact S.c2,by rw [hb.cell (by rw [zs];exact h0)];exact S.c3⟩
def Box (w:World) (g:Nat) (T:TypeId) (e:En):Prop:=w.heap[g]? = some (.cells (EC e) T (0,0))
theorem Box.lt {w:World} {g:Nat} {T:TypeId} {e:En} (h:Box w g T e):g < w.heap.size:=(Array.getElem?_eq_some_iff.1 h).1
theorem Box.at {w:World} {g:Nat} {T:TypeId} {e:En} (h:Box w g T e):gE w ⟨g,0,none⟩ e:=by
 unfold Box at h;refine ⟨?_,?_,?_,?_⟩ <;> simp [Addr.add,World.cell?,h,EC]
theorem Box.below {w w':World} {g:Nat} {T:TypeId} {e:En} (h:Box w g T e) (hb:Below w.heap.size w w'):Box w' g T e:=(hb.block g h.lt).trans h
theorem zQ (w:World) (T:TypeId) (e:En):Box (w.alloc (.cells (EC e) T)) w.heap.size T e:=by unfold Box;rw [heap_alloc_new]

def dJ (v:Value):Sem Value:=Instr.loadAt 50 v
theorem zy (v:Value):Instr.loadAt 50 v=dJ v:=rfl
def nu (p v:Value):Sem Unit:=Instr.storeAt 50 p v
theorem zx (p v:Value):Instr.storeAt 50 p v=nu p v:=rfl
theorem iB:(Tryz.prog.info? 50).map (·.size)=some 4:=by kernel_rfl
theorem zcY {w:World} {p:Addr} {e:En} (A:gE w p e):(loadVar 50 p).run Tryz.prog w = .ok (EV e) w:=by
 have hl:=run_loadCells_list (P:=Tryz.prog) (w:=w) p (EC e).toList (fun j v hv=>by
  match j,hv with
  | 0,hv=>cases hv;rw [add_zero];exact A.c0
  | 1,hv=>cases hv;exact A.c1
  | 2,hv=>cases hv;exact A.c2
  | 3,hv=>cases hv;exact A.c3
  | j+4,hv=>simp [EC] at hv)
 cases hq:Tryz.prog.info? 50 with
 | none=>have:=iB;simp [hq] at this
 | some x =>
  have hs:x.size=4:=by have:=iB;simpa [hq] using this
  have ex:(isAgg 50).run Tryz.prog w = .ok true w:=by
   unfold isAgg;rw [Sem.run_bind,run_underlying Tryz.underlying50 w];rfl
  have e4:(EC e).toList.length=4:=rfl;rw [e4] at hl;simp [loadVar,Sem.run_bind,ex,sizeOf,typeInfo,hq,hs,hl,EV]
theorem zB {w:World} {p:Addr} {e:En} (A:gE w p e):(dJ (.pointer (some p))).run Tryz.prog w = .ok (EV e) w:=by
 unfold dJ;simp only [Instr.loadAt,Instr.sureAddr,Sem.run_bind,Sem.run_pure,Result.andThen];exact zcY A
theorem kK {w:World} {g:Nat} {T:TypeId} {e e':En} (A:Box w g T e) :
  (nu (.pointer (some ⟨g,0,none⟩)) (EV e')).run Tryz.prog w = .ok () (w.setRow g (EC e')):=by
 unfold nu;have h:=run_storeCells_from (P:=Tryz.prog) g T (EC e').toList 0 (EC e) w A (by simp [EC]) (bO e')
 cases hq:Tryz.prog.info? 50 with
 | none=>have:=iB;simp [hq] at this
 | some x =>
  have hs:x.size=4:=by have:=iB;simpa [hq] using this
  simp only [Instr.storeAt,Instr.sureAddr,Sem.run_bind,Sem.run_pure,Result.andThen,storeVar,sizeOf,typeInfo,zu,zH];simp at h;simp [h,hq,hs]
theorem Box.setRow {w:World} {g:Nat} {T:TypeId} {e e':En} (A:Box w g T e):Box (w.setRow g (EC e')) g T e':=setRow_heap w g _ _ _ _ A
theorem zh {w w':World} {n g:Nat} {cs:Array Value} (h:Below n w w') (hg:n <= g):Below n w (w'.setRow g cs):=
 h.trans ⟨rfl,rfl,rfl,by simp [World.setRow],fun k hk=>setRow_other _ _ _ _ (by omega)⟩
theorem made (w:World) (e:En) (g:Nat) (hg:w.heap.size=g):∃ w':World,(nu (.pointer (some ⟨g,0,none⟩)) (EV e)).run Tryz.prog (w.alloc (.cells (EC en0) 50)) = .ok () w'/\Box w' g 50 e/\Below w.heap.size w w'/\w'.heap.size=w.heap.size+1:=by
 subst hg;refine ⟨_,kK (zQ w 50 en0),(zQ w 50 en0).setRow,zh (ze w _) (Nat.le_refl _),by simp [World.setRow]⟩

def aD (w:World) (ao:Option Addr) (m c:Nat) (L:List En):Prop:=
 L.length=m/\(ao=none -> m=0/\c=0)/\(∀ ad,ao=some ad -> ∀ t,t < m -> gE w (ad.add (t * 4)) (L.getD t en0))/\(∀ e∈L,e.sku.size <= maxLen)/\m <= 3518437208883
theorem aD.below {w w':World} {ao:Option Addr} {m c:Nat} {L:List En} (h:aD w ao m c L) (hb:Below w.heap.size w w'):aD w' ao m c L:=
 ⟨h.1,h.2.1,fun ad ha t ht=>(h.2.2.1 ad ha t ht).on hb,h.2.2.2⟩
theorem aD.at {w:World} {ao:Option Addr} {m c:Nat} {L:List En} (h:aD w ao m c L) (k:Nat) (hk:k < m):∃ ad,ao=some ad/\gE w (ad.add (k * 4)) (L.getD k en0):=by
 cases ao with
 | none=>have:=h.2.1 rfl;omega
 | some ad=>exact ⟨ad,rfl,h.2.2.1 ad rfl k hk⟩
theorem aD.sku {w:World} {ao:Option Addr} {m c:Nat} {L:List En} (h:aD w ao m c L) (k:Nat) (hk:k < m):(L.getD k en0).sku.size <= maxLen:=by
 have:L.getD k en0=L[k]'(by rw [h.1];exact hk):=by simp [List.getD,h.1,hk]
 rw [this];exact h.2.2.2.1 _ (List.getElem_mem _)
theorem aD.none (w:World):aD w none 0 0 []:=⟨rfl,fun _=>⟨rfl,rfl⟩,(fun ad h=>by cases h),(fun e he=>by cases he),by omega⟩
theorem zaU (e:En) (w:World) (hs:e.sku.size <= maxLen):Calls Tryz.prog 103 #[EV e] w fun x w'=>x = .returned (.int .i64 (ceE e))/\Below w.heap.size w w':=yW e w hs
theorem zhH (x y:En) (w:World):Calls Tryz.prog 104 #[EV x,EV y] w fun e w'=>e = .returned (.int .i64 (byD x y))/\Below w.heap.size w w':=zfZ x y w
end
end Go.Proofs.YtjffpimfngdggaaGreat.K
