/- LBase LSku LRSku LEnt -/
import Derived.Test.YtcilfelgpmfehaaGreatRows
import Derived.WalkKit
import Derived.WalkSpells
import Derived.Deep.QuietTactic
import Derived.BigQuiet
set_option maxHeartbeats 1600000
namespace Go.Proofs.YtcilfelgpmfehaaGreat.K
section
open Go.RowKit

theorem hide {p:Prop} (h:p):Hid p:=h
def dig (c:UInt8):Bool:=decide (48 <= (c.toNat:Int)) && decide ((c.toNat:Int) <= 57)
theorem zm {a b:Bool} (h:a=b):Ending.returned (.bool a) = .returned (.bool b):=by rw [h]
theorem zx {k:IntKind} {a b:Int} (h:a=b):Ending.returned (.int k a) = .returned (.int k b):=by rw [h]
theorem js {a a' b b':Int} (h:a=a') (h2:b=b'):Ending.returned (.tuple #[.int .i64 a,.int .i64 b]) = .returned (.tuple #[.int .i64 a',.int .i64 b']):=by rw [h,h2]
theorem jw (s:ByteArray) (h:s.size=0):s.toList.isEmpty=true:=by
 rw [ByteArray.toList_eq,List.isEmpty_iff,<- List.length_eq_zero_iff];simpa using h
theorem ks (s:ByteArray) (h:¬ s.size=0):s.toList.isEmpty=false:=by
 rw [ByteArray.toList_eq,List.isEmpty_eq_false_iff,<- List.length_pos_iff];have:s.data.size=s.size:=rfl;simp;omega
end
section
open Go.RowKit

def mk (c:UInt8):Bool:=((c.toNat:Int) == 45) || ((c.toNat:Int) == 46)
def lt (c:UInt8):Bool:=decide (65 <= (c.toNat:Int)) && decide ((c.toNat:Int) <= 90)

theorem xB (c:UInt8) (w:World):Calls Tryz.prog 203 #[.int .u8 (c.toNat:Int)] w fun e w'=>e = .returned (.bool (mk c))/\w'=w:=by
 by_cases h:(c.toNat:Int)=45
 ·have h':((c.toNat:Int) == 45)=true:=by simpa using h
  have HM:Hid (mk c=true):=by show _=_;unfold mk;rw [h'];rfl
  clear h;go_enter Tryz.func203,Tryz.ntmps203;go_wp2;go_ret;exact ⟨zm HM.out.symm,rfl⟩
 ·have h':((c.toNat:Int) == 45)=false:=by simpa using h
  have HM:Hid (((c.toNat:Int) == 46)=mk c):=by show _=_;unfold mk;rw [h'];rfl
  clear h;go_enter Tryz.func203,Tryz.ntmps203;go_wp2;go_ret;exact ⟨zm HM.out,rfl⟩
theorem kR (c:UInt8) (w:World):Calls Tryz.prog 204 #[.int .u8 (c.toNat:Int)] w fun e w'=>e = .returned (.bool (lt c))/\w'=w:=by
 by_cases h:65 <= (c.toNat:Int)
 ·have HM:Hid (decide ((c.toNat:Int) <= 90)=lt c):=by show _=_;unfold lt;rw [decide_eq_true h,Bool.true_and]
  go_enter Tryz.func204,Tryz.ntmps204;go_wp2;go_ret;exact ⟨zm HM.out,rfl⟩
 ·have HM:Hid (false=lt c):=by show _=_;unfold lt;rw [decide_eq_false h,Bool.false_and]
  go_enter Tryz.func204,Tryz.ntmps204;go_wp2;go_ret;exact ⟨zm HM.out,rfl⟩
theorem zaP (c:UInt8) (w:World):Calls Tryz.prog 205 #[.int .u8 (c.toNat:Int)] w fun e w'=>e = .returned (.bool (dig c))/\w'=w:=by
 by_cases h:48 <= (c.toNat:Int)
 ·have HM:Hid (decide ((c.toNat:Int) <= 57)=dig c):=by show _=_;unfold dig;rw [decide_eq_true h,Bool.true_and]
  go_enter Tryz.func205,Tryz.ntmps205;go_wp2;go_ret;exact ⟨zm HM.out,rfl⟩
 ·have HM:Hid (false=dig c):=by show _=_;unfold dig;rw [decide_eq_false h,Bool.false_and]
  go_enter Tryz.func205,Tryz.ntmps205;go_wp2;go_ret;exact ⟨zm HM.out,rfl⟩

def cB (l:List UInt8) (i:Nat):Bool:=
 if mk (l.getD i 0)=true then (decide (0 < i) && decide (i+1 < l.length)) && !mk (l.getD (i - 1) 0) else lt (l.getD i 0) || dig (l.getD i 0)
theorem qh (s:ByteArray) (i:Nat) (h:i < s.size):s.data.toList.getD i 0=s[i]:=by
 rw [List.getD,List.getElem?_eq_getElem (by simpa using h)];rfl
theorem jp (s:ByteArray):s.data.toList.length=s.size:=by simp

theorem kV (s:ByteArray) (i:Nat) (w:World) (hi:i < s.size) (hs:s.size <= 1000):Calls Tryz.prog 182 #[.string s,.int .i64 i] w fun e w'=>e = .returned (.bool (cB s.data.toList i))/\w'=w:=by
 cases hm:mk s[i] with
 | true =>
  have HM:=hide hm;clear hm;by_cases h0:0 < i
  ·by_cases h1:i+1 < s.size
   ·have HS:Hid ((!mk (s[i - 1]'(by omega)))=cB s.data.toList i):=by
     show _=_
     unfold cB;rw [qh s i hi,qh s (i - 1) (by omega),jp,if_pos HM.out,decide_eq_true h0,decide_eq_true h1];rfl
    have hz:((i:Int) - 1).toNat=i - 1:=by omega
    have i6:(i:Int) < (s.size:Int) - 1:=by omega
    have hK:=hide (xB (s[i - 1]'(by omega)));obtain ⟨x,hx⟩:∃ x:Int,((s[i - 1]'(by omega)).toNat:Int)=x:=⟨_,rfl⟩;rw [hx] at hK;go_enter Tryz.func182,Tryz.ntmps182;go_wp2_with fail;refine (xB s[i] _).mono ?_;rintro e w' ⟨rfl,rfl⟩;rw [HM.out];go_wp2_with fail;refine (hK.out _).mono ?_;rintro e w' ⟨rfl,rfl⟩;go_wp2;go_ret;exact ⟨zm HS.out,rfl⟩
   ·have HS:Hid (false=cB s.data.toList i):=by
     show _=_
     unfold cB;rw [qh s i hi,jp,if_pos HM.out,decide_eq_true h0,decide_eq_false h1];rfl
    have i6:¬ (i:Int) < (s.size:Int) - 1:=by omega
    go_enter Tryz.func182,Tryz.ntmps182;go_wp2_with fail;refine (xB s[i] _).mono ?_;rintro e w' ⟨rfl,rfl⟩;rw [HM.out];go_wp2;go_ret;exact ⟨zm HS.out,rfl⟩
  ·have HS:Hid (false=cB s.data.toList i):=by
    show _=_
    unfold cB;rw [qh s i hi,jp,if_pos HM.out,decide_eq_false h0];rfl
   obtain rfl:i=0:=by omega
   go_enter Tryz.func182,Tryz.ntmps182;go_wp2_with fail;refine (xB s[0] _).mono ?_;rintro e w' ⟨rfl,rfl⟩;rw [HM.out];go_wp2;go_ret;exact ⟨zm HS.out,rfl⟩
 | false =>
  have HM:=hide hm;clear hm
  cases hl:lt s[i] with
  | true =>
   have fi:=hide hl;clear hl
   have HS:Hid (true=cB s.data.toList i):=by
    show _=_
    unfold cB;rw [qh s i hi,if_neg (by rw [HM.out];simp),fi.out];rfl
   go_enter Tryz.func182,Tryz.ntmps182;go_wp2_with (first | (go_at_call 203;refine (xB s[i] _).mono ?_;rintro e w' ⟨rfl,rfl⟩;rw [HM.out]) | (go_at_call 204;refine (kR s[i] _).mono ?_;rintro e w' ⟨rfl,rfl⟩;rw [fi.out]));go_ret;exact ⟨zm HS.out,rfl⟩
  | false =>
   have fi:=hide hl;clear hl
   have HS:Hid (dig s[i]=cB s.data.toList i):=by
    show _=_
    unfold cB;rw [qh s i hi,if_neg (by rw [HM.out];simp),fi.out];rfl
   go_enter Tryz.func182,Tryz.ntmps182;go_wp2_with (first | (go_at_call 203;refine (xB s[i] _).mono ?_;rintro e w' ⟨rfl,rfl⟩;rw [HM.out]) | (go_at_call 204;refine (kR s[i] _).mono ?_;rintro e w' ⟨rfl,rfl⟩;rw [fi.out]) | (go_at_call 205;refine (zaP s[i] _).mono ?_;rintro e w' ⟨rfl,rfl⟩));go_ret;exact ⟨zm HS.out,rfl⟩

def eA (l:List UInt8) (k:Nat):Bool:=(List.range k).all (cB l)
def ckE (l:List UInt8):Int:=if l.length=0 then 20 else if 24 < l.length then 21 else if eA l l.length=true then 0 else 22
theorem vF (l:List UInt8) (k:Nat):eA l (k+1)=(eA l k && cB l k):=by
 unfold eA;rw [List.range_succ,List.all_append];simp
theorem bH (l:List UInt8) (k n:Nat) (h:k < n) (hs:cB l k=false):eA l n=false:=by
 unfold eA;rw [List.all_eq_false];exact ⟨k,by simpa using h,by rw [hs];simp⟩

theorem zdE (s:ByteArray) (w:World) (hs:s.size <= maxLen):Calls Tryz.prog 153 #[.string s] w fun e w'=>(∃ p:Int,e = .returned (.tuple #[.int .i64 p,.int .i64 (ckE s.data.toList)]))/\w'=w:=by
 unfold maxLen at hs;by_cases h0:s.size=0
 ·have he:=jw s h0
  have HE:Hid (ckE s.data.toList=20):=by show _=_;unfold ckE;rw [jp,if_pos h0]
  go_enter Tryz.func153,Tryz.ntmps153;go_wp2;go_ret2;exact ⟨⟨0,js rfl HE.out.symm⟩,rfl⟩
 have he:=ks s h0;by_cases h24:24 < s.size
 ·have HE:Hid (ckE s.data.toList=21):=by show _=_;unfold ckE;rw [jp,if_neg h0,if_pos h24]
  have tM:(24:Int) < s.size:=by omega
  go_enter Tryz.func153,Tryz.ntmps153;go_wp2;go_ret2;exact ⟨⟨0,js rfl HE.out.symm⟩,rfl⟩
 have tM:¬ (24:Int) < s.size:=by omega
 have HE:Hid (ckE s.data.toList=if eA s.data.toList s.size=true then 0 else 22):=by show _=_;unfold ckE;rw [jp,if_neg h0,if_neg h24]
 go_enter Tryz.func153,Tryz.ntmps153;go_wp2;go_loop [12] (fun i=>∃ k:Nat,k <= s.size/\i = .int .i64 k/\Hid (eA s.data.toList k=true)) (fun i=>s.size - (intOf i).toNat)
 case atStart=>exact ⟨0,Nat.zero_le _,rfl,rfl⟩
 case round =>
  obtain ⟨k,hk,rfl,HK⟩:=hrel;by_cases aq:k < s.size
  ·cases cr:cB s.data.toList k with
   | true =>
    have oY:=hide cr;clear cr;go_wp2_with (go_at_call 182;refine (kV s k _ aq (by omega)).mono ?_;rintro e w' ⟨rfl,rfl⟩;rw [oY.out]);go_round
    case rel=>exact ⟨k+1,by omega,by go_num,by show _=_;rw [vF,HK.out,oY.out];rfl⟩
    case measure=>simp [intOf];omega
   | false =>
    have oY:=hide cr;clear cr
    have HF:Hid (ckE s.data.toList=22):=by show _=_;rw [HE.out,bH _ k _ aq oY.out];rfl
    go_wp2_with (go_at_call 182;refine (kV s k _ aq (by omega)).mono ?_;rintro e w' ⟨rfl,rfl⟩;rw [oY.out]);go_ret2;exact ⟨⟨k,js rfl HF.out.symm⟩,rfl⟩
  ·obtain rfl:k=s.size:=by omega
   have HF:Hid (ckE s.data.toList=0):=by show _=_;rw [HE.out,if_pos HK.out]
   go_wp2;go_ret2;exact ⟨⟨0,js rfl HF.out.symm⟩,rfl⟩

def eS (l:List UInt8):Bool:=ckE l == 0
theorem kn (s:ByteArray) (w:World) (hs:s.size <= maxLen):Calls Tryz.prog 120 #[.string s] w fun e w'=>e = .returned (.bool (eS s.data.toList))/\w'=w:=by
 have HS:=hide hs;clear hs;go_enter Tryz.func120,Tryz.ntmps120;go_wp2_with (go_at_call 153;refine (zdE s _ HS.out).mono ?_;rintro e w' ⟨⟨p,rfl⟩,rfl⟩);go_ret;exact ⟨rfl,rfl⟩
end
section
open Go.RowKit

theorem xG (c:UInt8) (w:World):Calls Tryz.prog 152 #[.int .u8 (c.toNat:Int)] w fun e w'=>e = .returned (.bool (mk c))/\w'=w:=by
 by_cases h:(c.toNat:Int)=45
 ·have h':((c.toNat:Int) == 45)=true:=by simpa using h
  have HM:Hid (mk c=true):=by show _=_;unfold mk;rw [h'];rfl
  clear h;go_enter Tryz.func152,Tryz.ntmps152;go_wp2;go_ret;exact ⟨zm HM.out.symm,rfl⟩
 ·have h':((c.toNat:Int) == 45)=false:=by simpa using h
  have HM:Hid (((c.toNat:Int) == 46)=mk c):=by show _=_;unfold mk;rw [h'];rfl
  clear h;go_enter Tryz.func152,Tryz.ntmps152;go_wp2;go_ret;exact ⟨zm HM.out,rfl⟩
theorem qH (c:UInt8) (w:World):Calls Tryz.prog 150 #[.int .u8 (c.toNat:Int)] w fun e w'=>e = .returned (.bool (lt c))/\w'=w:=by
 by_cases h:65 <= (c.toNat:Int)
 ·have HM:Hid (decide ((c.toNat:Int) <= 90)=lt c):=by show _=_;unfold lt;rw [decide_eq_true h,Bool.true_and]
  go_enter Tryz.func150,Tryz.ntmps150;go_wp2;go_ret;exact ⟨zm HM.out,rfl⟩
 ·have HM:Hid (false=lt c):=by show _=_;unfold lt;rw [decide_eq_false h,Bool.false_and]
  go_enter Tryz.func150,Tryz.ntmps150;go_wp2;go_ret;exact ⟨zm HM.out,rfl⟩
theorem xr (c:UInt8) (w:World):Calls Tryz.prog 151 #[.int .u8 (c.toNat:Int)] w fun e w'=>e = .returned (.bool (dig c))/\w'=w:=by
 by_cases h:48 <= (c.toNat:Int)
 ·have HM:Hid (decide ((c.toNat:Int) <= 57)=dig c):=by show _=_;unfold dig;rw [decide_eq_true h,Bool.true_and]
  go_enter Tryz.func151,Tryz.ntmps151;go_wp2;go_ret;exact ⟨zm HM.out,rfl⟩
 ·have HM:Hid (false=dig c):=by show _=_;unfold dig;rw [decide_eq_false h,Bool.false_and]
  go_enter Tryz.func151,Tryz.ntmps151;go_wp2;go_ret;exact ⟨zm HM.out,rfl⟩
theorem zfu (c:UInt8) (h:lt c || dig c=true):mk c=false:=by
 unfold mk;unfold lt dig at h;generalize (c.toNat:Int)=x at h ⊢;simp at h ⊢;omega

theorem kd (s:ByteArray) (i:Nat) (w:World) (hi:i < s.size) (hs:s.size <= 1000):Calls Tryz.prog 118 #[.string s,.int .i64 i] w fun e w'=>e = .returned (.bool (cB s.data.toList i))/\w'=w:=by
 cases hl:lt s[i] with
 | true =>
  have fi:=hide hl
  have HS:Hid (true=cB s.data.toList i):=by
   show _=_
   unfold cB;rw [qh s i hi,if_neg (by rw [zfu _ (by rw [hl];rfl)];simp),hl];rfl
  clear hl;go_enter Tryz.func118,Tryz.ntmps118;go_wp2_with (go_at_call 150;refine (qH s[i] _).mono ?_;rintro e w' ⟨rfl,rfl⟩;rw [fi.out]);go_ret;exact ⟨zm HS.out,rfl⟩
 | false =>
  have fi:=hide hl;clear hl
  cases hd:dig s[i] with
  | true =>
   have HD:=hide hd
   have HS:Hid (true=cB s.data.toList i):=by
    show _=_
    unfold cB;rw [qh s i hi,if_neg (by rw [zfu _ (by rw [hd];simp)];simp),hd];simp
   clear hd;go_enter Tryz.func118,Tryz.ntmps118;go_wp2_with (first | (go_at_call 150;refine (qH s[i] _).mono ?_;rintro e w' ⟨rfl,rfl⟩;rw [fi.out]) | (go_at_call 151;refine (xr s[i] _).mono ?_;rintro e w' ⟨rfl,rfl⟩;rw [HD.out]));go_ret;exact ⟨zm HS.out,rfl⟩
  | false =>
   have HD:=hide hd;clear hd
   cases hm:mk s[i] with
   | false =>
    have HM:=hide hm;clear hm
    have HS:Hid (false=cB s.data.toList i):=by
     show _=_
     unfold cB;rw [qh s i hi,if_neg (by rw [HM.out];simp),fi.out,HD.out];rfl
    go_enter Tryz.func118,Tryz.ntmps118;go_wp2_with (first | (go_at_call 150;refine (qH s[i] _).mono ?_;rintro e w' ⟨rfl,rfl⟩;rw [fi.out]) | (go_at_call 151;refine (xr s[i] _).mono ?_;rintro e w' ⟨rfl,rfl⟩;rw [HD.out]) | (go_at_call 152;refine (xG s[i] _).mono ?_;rintro e w' ⟨rfl,rfl⟩;rw [HM.out]));go_ret;exact ⟨zm HS.out,rfl⟩
   | true =>
    have HM:=hide hm;clear hm;by_cases h0:i=0
    ·have HS:Hid (false=cB s.data.toList i):=by
      show _=_
      unfold cB;rw [qh s i hi,if_pos HM.out,decide_eq_false (by omega)];rfl
     subst h0;go_enter Tryz.func118,Tryz.ntmps118;go_wp2_with (first | (go_at_call 150;refine (qH s[0] _).mono ?_;rintro e w' ⟨rfl,rfl⟩;rw [fi.out]) | (go_at_call 151;refine (xr s[0] _).mono ?_;rintro e w' ⟨rfl,rfl⟩;rw [HD.out]) | (go_at_call 152;refine (xG s[0] _).mono ?_;rintro e w' ⟨rfl,rfl⟩;rw [HM.out]));go_ret;exact ⟨zm HS.out,rfl⟩
    ·have lF:((i:Int) == 0)=false:=by simpa using h0
     by_cases h1:i+1 < s.size
     ·have HS:Hid ((!mk (s[i - 1]'(by omega)))=cB s.data.toList i):=by
       show _=_
       unfold cB;rw [qh s i hi,qh s (i - 1) (by omega),jp,if_pos HM.out,decide_eq_true (by omega),decide_eq_true h1];rfl
      have hz:((i:Int) - 1).toNat=i - 1:=by omega
      have i6:((i:Int) == (s.size:Int) - 1)=false:=by simp;omega
      have hK:=hide (xG (s[i - 1]'(by omega)));obtain ⟨x,hx⟩:∃ x:Int,((s[i - 1]'(by omega)).toNat:Int)=x:=⟨_,rfl⟩;rw [hx] at hK
      have cK:1 <= i:=by omega
      clear h0;go_enter Tryz.func118,Tryz.ntmps118;go_wp2_with (first | (go_at_call 150;refine (qH s[i] _).mono ?_;rintro e w' ⟨rfl,rfl⟩;rw [fi.out]) | (go_at_call 151;refine (xr s[i] _).mono ?_;rintro e w' ⟨rfl,rfl⟩;rw [HD.out]));refine (xG s[i] _).mono ?_;rintro e w' ⟨rfl,rfl⟩;rw [HM.out];go_wp2_with fail;refine (hK.out _).mono ?_;rintro e w' ⟨rfl,rfl⟩;go_wp2;go_ret;exact ⟨zm HS.out,rfl⟩
     ·have HS:Hid (false=cB s.data.toList i):=by
       show _=_
       unfold cB;rw [qh s i hi,jp,if_pos HM.out,decide_eq_false h1];simp
      have i6:((i:Int) == (s.size:Int) - 1)=true:=by simp;omega
      clear h0;go_enter Tryz.func118,Tryz.ntmps118;go_wp2_with (first | (go_at_call 150;refine (qH s[i] _).mono ?_;rintro e w' ⟨rfl,rfl⟩;rw [fi.out]) | (go_at_call 151;refine (xr s[i] _).mono ?_;rintro e w' ⟨rfl,rfl⟩;rw [HD.out]));refine (xG s[i] _).mono ?_;rintro e w' ⟨rfl,rfl⟩;rw [HM.out];go_wp2;go_ret;exact ⟨zm HS.out,rfl⟩

theorem bN (s:ByteArray) (w:World) (hs:s.size <= maxLen):Calls Tryz.prog 79 #[.string s] w fun e w'=>(∃ p:Int,e = .returned (.tuple #[.int .i64 p,.int .i64 (ckE s.data.toList)]))/\w'=w:=by
 unfold maxLen at hs;by_cases h0:s.size=0
 ·have lF:((s.size:Int) == 0)=true:=by simpa using h0
  have HE:Hid (ckE s.data.toList=20):=by show _=_;unfold ckE;rw [jp,if_pos h0]
  go_enter Tryz.func79,Tryz.ntmps79;go_wp2;go_ret2;exact ⟨⟨0,js rfl HE.out.symm⟩,rfl⟩
 have lF:((s.size:Int) == 0)=false:=by simpa using h0
 by_cases h24:24 < s.size
 ·have HE:Hid (ckE s.data.toList=21):=by show _=_;unfold ckE;rw [jp,if_neg h0,if_pos h24]
  have tM:(24:Int) < s.size:=by omega
  clear h0;go_enter Tryz.func79,Tryz.ntmps79;go_wp2;go_ret2;exact ⟨⟨0,js rfl HE.out.symm⟩,rfl⟩
 have tM:¬ (24:Int) < s.size:=by omega
 have HE:Hid (ckE s.data.toList=if eA s.data.toList s.size=true then 0 else 22):=by show _=_;unfold ckE;rw [jp,if_neg h0,if_neg h24]
 clear h0;go_enter Tryz.func79,Tryz.ntmps79;go_wp2;go_loop [4] (fun i=>∃ k:Nat,k <= s.size/\i = .int .i64 k/\Hid (eA s.data.toList k=true)) (fun i=>s.size - (intOf i).toNat)
 case atStart=>exact ⟨0,Nat.zero_le _,rfl,rfl⟩
 case round =>
  obtain ⟨k,hk,rfl,HK⟩:=hrel;by_cases aq:k < s.size
  ·cases cr:cB s.data.toList k with
   | true =>
    have oY:=hide cr;clear cr;go_wp2_with (go_at_call 118;refine (kd s k _ aq (by omega)).mono ?_;rintro e w' ⟨rfl,rfl⟩;rw [oY.out]);go_round
    case rel=>exact ⟨k+1,by omega,by go_num,by show _=_;rw [vF,HK.out,oY.out];rfl⟩
    case measure=>simp [intOf];omega
   | false =>
    have oY:=hide cr;clear cr
    have HF:Hid (ckE s.data.toList=22):=by show _=_;rw [HE.out,bH _ k _ aq oY.out];rfl
    go_wp2_with (go_at_call 118;refine (kd s k _ aq (by omega)).mono ?_;rintro e w' ⟨rfl,rfl⟩;rw [oY.out]);go_ret2;exact ⟨⟨k,js rfl HF.out.symm⟩,rfl⟩
  ·obtain rfl:k=s.size:=by omega
   have HF:Hid (ckE s.data.toList=0):=by show _=_;rw [HE.out,if_pos HK.out]
   go_wp2;go_ret2;exact ⟨⟨0,js rfl HF.out.symm⟩,rfl⟩
theorem vO (s:ByteArray) (w:World) (hs:s.size <= maxLen):Calls Tryz.prog 55 #[.string s] w fun e w'=>e = .returned (.bool (eS s.data.toList))/\w'=w:=by
 have HS:=hide hs;clear hs;go_enter Tryz.func55,Tryz.ntmps55;go_wp2_with (go_at_call 79;refine (bN s _ HS.out).mono ?_;rintro e w' ⟨⟨p,rfl⟩,rfl⟩);go_ret;exact ⟨rfl,rfl⟩
end
section
open Go.RowKit

structure En where
 rep:Int
 num:Int
 sku:ByteArray
 qty:Int
def enC (e:En):List Value:=[.int .i64 e.rep,.int .i64 e.num,.string e.sku,.int .i64 e.qty]
abbrev enV (e:En):Value:=.agg #[.int .i64 e.rep,.int .i64 e.num,.string e.sku,.int .i64 e.qty]
def isR (r:Int):Bool:=decide (0 <= r) && decide (r < 16)
def ceE (e:En):Int:=if isR e.rep=false then 3 else if e.num < 1∨1000000000 < e.num then 2 else if eS e.sku.data.toList=false then 5 else if e.qty < 1∨1000000 < e.qty then 6 else 0

theorem qp (r:Int) (w:World):Calls Tryz.prog 119 #[.int .i64 r] w fun e w'=>e = .returned (.bool (isR r))/\w'=w:=by
 go_enter Tryz.func119,Tryz.ntmps119;by_cases h0:0 <= r
 ·have HR:Hid (isR r=decide (r < 16)):=by show _=_;unfold isR;rw [decide_eq_true h0,Bool.true_and]
  go_wp2;go_ret;exact ⟨zm HR.out.symm,rfl⟩
 ·have HR:Hid (isR r=false):=by show _=_;unfold isR;rw [decide_eq_false h0,Bool.false_and]
  go_wp2;go_ret;exact ⟨zm HR.out.symm,rfl⟩

theorem wB (e:En) (w:World) (hs:e.sku.size <= maxLen):Calls Tryz.prog 81 #[enV e] w fun x w'=>x = .returned (.int .i64 (ceE e))/\Below w.heap.size w w':=by
 obtain ⟨r,m,s,q⟩:=e;have HB:Hid (Below w.heap.size w (w.alloc (.cells #[.int .i64 r,.int .i64 m,.string s,.int .i64 q] 66))):=(Below.refl _ _).alloc (Nat.le_refl _) _;have HS:Hid (s.size <= maxLen):=hs;clear hs;obtain ⟨x,Hx⟩:∃ x,Hid (isR r=x):=⟨_,rfl⟩;obtain ⟨g,Hg⟩:∃ g,Hid (eS s.data.toList=g):=⟨_,rfl⟩
 cases x with
 | false =>
  have HF:Hid (ceE ⟨r,m,s,q⟩=3):=by show _=_;unfold ceE;rw [if_pos Hx.out]
  go_enter Tryz.func81,Tryz.ntmps81;go_wp2_with (go_at_call 119;refine (qp r _).mono ?_;rintro e w' ⟨rfl,rfl⟩;rw [Hx.out]);go_ret;exact ⟨zx HF.out.symm,HB.out⟩
 | true =>
  have nd:0 <= r/\r < 16:=by have:=Hx.out;unfold isR at this;simpa using this
  have mv:¬ isR r=false:=by rw [Hx.out];simp
  by_cases h1:m < 1
  ·have HF:Hid (ceE ⟨r,m,s,q⟩=2):=by show _=_;unfold ceE;rw [if_neg mv,if_pos (Or.inl h1)]
   clear mv;go_enter Tryz.func81,Tryz.ntmps81;go_wp2_with (go_at_call 119;refine (qp r _).mono ?_;rintro e w' ⟨rfl,rfl⟩;rw [Hx.out]);go_ret;exact ⟨zx HF.out.symm,HB.out⟩
  by_cases h2:1000000000 < m
  ·have HF:Hid (ceE ⟨r,m,s,q⟩=2):=by show _=_;unfold ceE;rw [if_neg mv,if_pos (Or.inr h2)]
   clear mv;go_enter Tryz.func81,Tryz.ntmps81;go_wp2_with (go_at_call 119;refine (qp r _).mono ?_;rintro e w' ⟨rfl,rfl⟩;rw [Hx.out]);go_ret;exact ⟨zx HF.out.symm,HB.out⟩
  have oE:¬ (m < 1∨1000000000 < m):=by omega
  cases g with
  | false =>
   have HF:Hid (ceE ⟨r,m,s,q⟩=5):=by show _=_;unfold ceE;rw [if_neg mv,if_neg oE,if_pos Hg.out]
   clear mv oE;go_enter Tryz.func81,Tryz.ntmps81;go_wp2_with (first | (go_at_call 119;refine (qp r _).mono ?_;rintro e w' ⟨rfl,rfl⟩;rw [Hx.out]) | (go_at_call 120;refine (kn s _ HS.out).mono ?_;rintro e w' ⟨rfl,rfl⟩;rw [Hg.out]));go_ret;exact ⟨zx HF.out.symm,HB.out⟩
  | true =>
   have gO:¬ eS s.data.toList=false:=by rw [Hg.out];simp
   by_cases h3:q < 1
   ·have HF:Hid (ceE ⟨r,m,s,q⟩=6):=by show _=_;unfold ceE;rw [if_neg mv,if_neg oE,if_neg gO,if_pos (Or.inl h3)]
    clear mv oE gO;go_enter Tryz.func81,Tryz.ntmps81;go_wp2_with (first | (go_at_call 119;refine (qp r _).mono ?_;rintro e w' ⟨rfl,rfl⟩;rw [Hx.out]) | (go_at_call 120;refine (kn s _ HS.out).mono ?_;rintro e w' ⟨rfl,rfl⟩;rw [Hg.out]));go_ret;exact ⟨zx HF.out.symm,HB.out⟩
   by_cases h4:1000000 < q
   ·have HF:Hid (ceE ⟨r,m,s,q⟩=6):=by show _=_;unfold ceE;rw [if_neg mv,if_neg oE,if_neg gO,if_pos (Or.inr h4)]
    clear mv oE gO;go_enter Tryz.func81,Tryz.ntmps81;go_wp2_with (first | (go_at_call 119;refine (qp r _).mono ?_;rintro e w' ⟨rfl,rfl⟩;rw [Hx.out]) | (go_at_call 120;refine (kn s _ HS.out).mono ?_;rintro e w' ⟨rfl,rfl⟩;rw [Hg.out]));go_ret;exact ⟨zx HF.out.symm,HB.out⟩
   have nE:¬ (q < 1∨1000000 < q):=by omega
   have HF:Hid (ceE ⟨r,m,s,q⟩=0):=by show _=_;unfold ceE;rw [if_neg mv,if_neg oE,if_neg gO,if_neg nE]
   clear mv oE gO nE;go_enter Tryz.func81,Tryz.ntmps81;go_wp2_with (first | (go_at_call 119;refine (qp r _).mono ?_;rintro e w' ⟨rfl,rfl⟩;rw [Hx.out]) | (go_at_call 120;refine (kn s _ HS.out).mono ?_;rintro e w' ⟨rfl,rfl⟩;rw [Hg.out]));go_ret;exact ⟨zx HF.out.symm,HB.out⟩
end
end Go.Proofs.YtcilfelgpmfehaaGreat.K
