/- LBase LSku LRSku LEnt LCmp LRow LChk Gsc GRr -/
import Derived.Test.YtaphmhbmhcahaabGreatTk
import Derived.Test.YtaphmhbmhcahaabGreatRows
import Derived.WalkKit
import Derived.WalkSpells
import Derived.Deep.QuietTactic
import Derived.BigQuiet
import Derived.Deep.RegionHeld
import Derived.Lib.QuietBelow
import Derived.Laws.Cells
import Derived.Laws.Tables
import Derived.Laws.CopyOwn
import Derived.Shelf.Small.Strs
import Derived.Test.YtaphmhbmhcahaabGreatProg
import Derived.Test.YtaphmhbmhcahaabGreatSn10
import Derived.Test.YtaphmhbmhcahaabGreatSn11
import Derived.Test.YtaphmhbmhcahaabGreatSn08
set_option maxRecDepth 100000
set_option maxHeartbeats 1600000
namespace Go.Proofs.YtaphmhbmhcahaabGreat.K
section
open Go.RowKit

theorem hide {p:Prop} (h:p):Hid p:=h
def dig (c:UInt8):Bool:=decide (48 <= (c.toNat:Int)) && decide ((c.toNat:Int) <= 57)
theorem ret_bool {a b:Bool} (h:a=b):Ending.returned (.bool a) = .returned (.bool b):=by rw [h]
theorem ret_int {k:IntKind} {a b:Int} (h:a=b):Ending.returned (.int k a) = .returned (.int k b):=by rw [h]
theorem ret_two {a a' b b':Int} (h:a=a') (h2:b=b'):Ending.returned (.tuple #[.int .i64 a,.int .i64 b]) = .returned (.tuple #[.int .i64 a',.int .i64 b']):=by rw [h,h2]
theorem empty_yes (s:ByteArray) (h:s.size=0):s.toList.isEmpty=true:=by
 rw [ByteArray.toList_eq,List.isEmpty_iff,<- List.length_eq_zero_iff];simpa using h
theorem empty_no (s:ByteArray) (h:¬ s.size=0):s.toList.isEmpty=false:=by
 rw [ByteArray.toList_eq,List.isEmpty_eq_false_iff,<- List.length_pos_iff];have:s.data.size=s.size:=rfl;simp;omega
end
section
open Go.RowKit

def mk (c:UInt8):Bool:=((c.toNat:Int) == 45) || ((c.toNat:Int) == 46)
def lt (c:UInt8):Bool:=decide (65 <= (c.toNat:Int)) && decide ((c.toNat:Int) <= 90)

theorem isMark_any (c:UInt8) (w:World):Calls Tryz.prog 195 #[.int .u8 (c.toNat:Int)] w fun e w'=>e = .returned (.bool (mk c))/\w'=w:=by
 by_cases h:(c.toNat:Int)=45
 ·have h':((c.toNat:Int) == 45)=true:=by simpa using h
  have HM:Hid (mk c=true):=by show _=_;unfold mk;rw [h'];rfl
  clear h;go_enter Tryz.func195,Tryz.ntmps195;go_wp2;go_ret;exact ⟨ret_bool HM.out.symm,rfl⟩
 ·have h':((c.toNat:Int) == 45)=false:=by simpa using h
  have HM:Hid (((c.toNat:Int) == 46)=mk c):=by show _=_;unfold mk;rw [h'];rfl
  clear h;go_enter Tryz.func195,Tryz.ntmps195;go_wp2;go_ret;exact ⟨ret_bool HM.out,rfl⟩
theorem isLetter_any (c:UInt8) (w:World):Calls Tryz.prog 196 #[.int .u8 (c.toNat:Int)] w fun e w'=>e = .returned (.bool (lt c))/\w'=w:=by
 by_cases h:65 <= (c.toNat:Int)
 ·have HM:Hid (decide ((c.toNat:Int) <= 90)=lt c):=by show _=_;unfold lt;rw [decide_eq_true h,Bool.true_and]
  go_enter Tryz.func196,Tryz.ntmps196;go_wp2;go_ret;exact ⟨ret_bool HM.out,rfl⟩
 ·have HM:Hid (false=lt c):=by show _=_;unfold lt;rw [decide_eq_false h,Bool.false_and]
  go_enter Tryz.func196,Tryz.ntmps196;go_wp2;go_ret;exact ⟨ret_bool HM.out,rfl⟩
theorem isDigit_any (c:UInt8) (w:World):Calls Tryz.prog 197 #[.int .u8 (c.toNat:Int)] w fun e w'=>e = .returned (.bool (dig c))/\w'=w:=by
 by_cases h:48 <= (c.toNat:Int)
 ·have HM:Hid (decide ((c.toNat:Int) <= 57)=dig c):=by show _=_;unfold dig;rw [decide_eq_true h,Bool.true_and]
  go_enter Tryz.func197,Tryz.ntmps197;go_wp2;go_ret;exact ⟨ret_bool HM.out,rfl⟩
 ·have HM:Hid (false=dig c):=by show _=_;unfold dig;rw [decide_eq_false h,Bool.false_and]
  go_enter Tryz.func197,Tryz.ntmps197;go_wp2;go_ret;exact ⟨ret_bool HM.out,rfl⟩

def stand (l:List UInt8) (i:Nat):Bool:=
 if mk (l.getD i 0)=true then (decide (0 < i) && decide (i+1 < l.length)) && !mk (l.getD (i - 1) 0) else lt (l.getD i 0) || dig (l.getD i 0)
theorem getD_at (s:ByteArray) (i:Nat) (h:i < s.size):s.data.toList.getD i 0=s[i]:=by
 rw [List.getD,List.getElem?_eq_getElem (by simpa using h)];rfl
theorem len_at (s:ByteArray):s.data.toList.length=s.size:=by simp

theorem canStand_any (s:ByteArray) (i:Nat) (w:World) (hi:i < s.size) (hs:s.size <= 1000):Calls Tryz.prog 164 #[.string s,.int .i64 i] w fun e w'=>e = .returned (.bool (stand s.data.toList i))/\w'=w:=by
 cases hm:mk s[i] with
 | true =>
  have HM:=hide hm;clear hm;by_cases h0:0 < i
  ·by_cases h1:i+1 < s.size
   ·have HS:Hid ((!mk (s[i - 1]'(by omega)))=stand s.data.toList i):=by
     show _=_
     unfold stand;rw [getD_at s i hi,getD_at s (i - 1) (by omega),len_at,if_pos HM.out,decide_eq_true h0,decide_eq_true h1];rfl
    have hz:((i:Int) - 1).toNat=i - 1:=by omega
    have h1':(i:Int) < (s.size:Int) - 1:=by omega
    have hK:=hide (isMark_any (s[i - 1]'(by omega)));obtain ⟨x,hx⟩:∃ x:Int,((s[i - 1]'(by omega)).toNat:Int)=x:=⟨_,rfl⟩;rw [hx] at hK;go_enter Tryz.func164,Tryz.ntmps164;go_wp2_with fail;refine (isMark_any s[i] _).mono ?_;rintro e w' ⟨rfl,rfl⟩;rw [HM.out];go_wp2_with fail;refine (hK.out _).mono ?_;rintro e w' ⟨rfl,rfl⟩;go_wp2;go_ret;exact ⟨ret_bool HS.out,rfl⟩
   ·have HS:Hid (false=stand s.data.toList i):=by
     show _=_
     unfold stand;rw [getD_at s i hi,len_at,if_pos HM.out,decide_eq_true h0,decide_eq_false h1];rfl
    have h1':¬ (i:Int) < (s.size:Int) - 1:=by omega
    go_enter Tryz.func164,Tryz.ntmps164;go_wp2_with fail;refine (isMark_any s[i] _).mono ?_;rintro e w' ⟨rfl,rfl⟩;rw [HM.out];go_wp2;go_ret;exact ⟨ret_bool HS.out,rfl⟩
  ·have HS:Hid (false=stand s.data.toList i):=by
    show _=_
    unfold stand;rw [getD_at s i hi,len_at,if_pos HM.out,decide_eq_false h0];rfl
   obtain rfl:i=0:=by omega
   go_enter Tryz.func164,Tryz.ntmps164;go_wp2_with fail;refine (isMark_any s[0] _).mono ?_;rintro e w' ⟨rfl,rfl⟩;rw [HM.out];go_wp2;go_ret;exact ⟨ret_bool HS.out,rfl⟩
 | false =>
  have HM:=hide hm;clear hm
  cases hl:lt s[i] with
  | true =>
   have HLt:=hide hl;clear hl
   have HS:Hid (true=stand s.data.toList i):=by
    show _=_
    unfold stand;rw [getD_at s i hi,if_neg (by rw [HM.out];simp),HLt.out];rfl
   go_enter Tryz.func164,Tryz.ntmps164;go_wp2_with (first | (go_at_call 195;refine (isMark_any s[i] _).mono ?_;rintro e w' ⟨rfl,rfl⟩;rw [HM.out]) | (go_at_call 196;refine (isLetter_any s[i] _).mono ?_;rintro e w' ⟨rfl,rfl⟩;rw [HLt.out]));go_ret;exact ⟨ret_bool HS.out,rfl⟩
  | false =>
   have HLt:=hide hl;clear hl
   have HS:Hid (dig s[i]=stand s.data.toList i):=by
    show _=_
    unfold stand;rw [getD_at s i hi,if_neg (by rw [HM.out];simp),HLt.out];rfl
   go_enter Tryz.func164,Tryz.ntmps164;go_wp2_with (first | (go_at_call 195;refine (isMark_any s[i] _).mono ?_;rintro e w' ⟨rfl,rfl⟩;rw [HM.out]) | (go_at_call 196;refine (isLetter_any s[i] _).mono ?_;rintro e w' ⟨rfl,rfl⟩;rw [HLt.out]) | (go_at_call 197;refine (isDigit_any s[i] _).mono ?_;rintro e w' ⟨rfl,rfl⟩));go_ret;exact ⟨ret_bool HS.out,rfl⟩

def stands (l:List UInt8) (k:Nat):Bool:=(List.range k).all (stand l)
def ckE (l:List UInt8):Int:=if l.length=0 then 20 else if 24 < l.length then 21 else if stands l l.length=true then 0 else 22
theorem stands_succ (l:List UInt8) (k:Nat):stands l (k+1)=(stands l k && stand l k):=by
 unfold stands;rw [List.range_succ,List.all_append];simp
theorem stands_no (l:List UInt8) (k n:Nat) (h:k < n) (hs:stand l k=false):stands l n=false:=by
 unfold stands;rw [List.all_eq_false];exact ⟨k,by simpa using h,by rw [hs];simp⟩

theorem check_any (s:ByteArray) (w:World) (hs:s.size <= maxLen):Calls Tryz.prog 137 #[.string s] w fun e w'=>(∃ p:Int,e = .returned (.tuple #[.int .i64 p,.int .i64 (ckE s.data.toList)]))/\w'=w:=by
 unfold maxLen at hs;by_cases h0:s.size=0
 ·have he:=empty_yes s h0
  have HE:Hid (ckE s.data.toList=20):=by show _=_;unfold ckE;rw [len_at,if_pos h0]
  go_enter Tryz.func137,Tryz.ntmps137;go_wp2;go_ret2;exact ⟨⟨0,ret_two rfl HE.out.symm⟩,rfl⟩
 have he:=empty_no s h0;by_cases h24:24 < s.size
 ·have HE:Hid (ckE s.data.toList=21):=by show _=_;unfold ckE;rw [len_at,if_neg h0,if_pos h24]
  have h24':(24:Int) < s.size:=by omega
  go_enter Tryz.func137,Tryz.ntmps137;go_wp2;go_ret2;exact ⟨⟨0,ret_two rfl HE.out.symm⟩,rfl⟩
 have h24':¬ (24:Int) < s.size:=by omega
 have HE:Hid (ckE s.data.toList=if stands s.data.toList s.size=true then 0 else 22):=by show _=_;unfold ckE;rw [len_at,if_neg h0,if_neg h24]
 go_enter Tryz.func137,Tryz.ntmps137;go_wp2;go_loop [12] (fun i=>∃ k:Nat,k <= s.size/\i = .int .i64 k/\Hid (stands s.data.toList k=true)) (fun i=>s.size - (intOf i).toNat)
 case atStart=>exact ⟨0,Nat.zero_le _,rfl,rfl⟩
 case round =>
  obtain ⟨k,hk,rfl,HK⟩:=hrel;by_cases hlt:k < s.size
  ·cases hst:stand s.data.toList k with
   | true =>
    have HST:=hide hst;clear hst;go_wp2_with (go_at_call 164;refine (canStand_any s k _ hlt (by omega)).mono ?_;rintro e w' ⟨rfl,rfl⟩;rw [HST.out]);go_round
    case rel=>exact ⟨k+1,by omega,by go_num,by show _=_;rw [stands_succ,HK.out,HST.out];rfl⟩
    case measure=>simp [intOf];omega
   | false =>
    have HST:=hide hst;clear hst
    have HF:Hid (ckE s.data.toList=22):=by show _=_;rw [HE.out,stands_no _ k _ hlt HST.out];rfl
    go_wp2_with (go_at_call 164;refine (canStand_any s k _ hlt (by omega)).mono ?_;rintro e w' ⟨rfl,rfl⟩;rw [HST.out]);go_ret2;exact ⟨⟨k,ret_two rfl HF.out.symm⟩,rfl⟩
  ·obtain rfl:k=s.size:=by omega
   have HF:Hid (ckE s.data.toList=0):=by show _=_;rw [HE.out,if_pos HK.out]
   go_wp2;go_ret2;exact ⟨⟨0,ret_two rfl HF.out.symm⟩,rfl⟩

def good (l:List UInt8):Bool:=ckE l == 0
theorem good_any (s:ByteArray) (w:World) (hs:s.size <= maxLen):Calls Tryz.prog 113 #[.string s] w fun e w'=>e = .returned (.bool (good s.data.toList))/\w'=w:=by
 have HS:=hide hs;clear hs;go_enter Tryz.func113,Tryz.ntmps113;go_wp2_with (go_at_call 137;refine (check_any s _ HS.out).mono ?_;rintro e w' ⟨⟨p,rfl⟩,rfl⟩);go_ret;exact ⟨rfl,rfl⟩
end
section
open Go.RowKit

theorem refMark_any (c:UInt8) (w:World):Calls Tryz.prog 182 #[.int .u8 (c.toNat:Int)] w fun e w'=>e = .returned (.bool (mk c))/\w'=w:=by
 by_cases h:(c.toNat:Int)=45
 ·have h':((c.toNat:Int) == 45)=true:=by simpa using h
  have HM:Hid (mk c=true):=by show _=_;unfold mk;rw [h'];rfl
  clear h;go_enter Tryz.func182,Tryz.ntmps182;go_wp2;go_ret;exact ⟨ret_bool HM.out.symm,rfl⟩
 ·have h':((c.toNat:Int) == 45)=false:=by simpa using h
  have HM:Hid (((c.toNat:Int) == 46)=mk c):=by show _=_;unfold mk;rw [h'];rfl
  clear h;go_enter Tryz.func182,Tryz.ntmps182;go_wp2;go_ret;exact ⟨ret_bool HM.out,rfl⟩
theorem refLetter_any (c:UInt8) (w:World):Calls Tryz.prog 180 #[.int .u8 (c.toNat:Int)] w fun e w'=>e = .returned (.bool (lt c))/\w'=w:=by
 by_cases h:65 <= (c.toNat:Int)
 ·have HM:Hid (decide ((c.toNat:Int) <= 90)=lt c):=by show _=_;unfold lt;rw [decide_eq_true h,Bool.true_and]
  go_enter Tryz.func180,Tryz.ntmps180;go_wp2;go_ret;exact ⟨ret_bool HM.out,rfl⟩
 ·have HM:Hid (false=lt c):=by show _=_;unfold lt;rw [decide_eq_false h,Bool.false_and]
  go_enter Tryz.func180,Tryz.ntmps180;go_wp2;go_ret;exact ⟨ret_bool HM.out,rfl⟩
theorem refDigit_any (c:UInt8) (w:World):Calls Tryz.prog 181 #[.int .u8 (c.toNat:Int)] w fun e w'=>e = .returned (.bool (dig c))/\w'=w:=by
 by_cases h:48 <= (c.toNat:Int)
 ·have HM:Hid (decide ((c.toNat:Int) <= 57)=dig c):=by show _=_;unfold dig;rw [decide_eq_true h,Bool.true_and]
  go_enter Tryz.func181,Tryz.ntmps181;go_wp2;go_ret;exact ⟨ret_bool HM.out,rfl⟩
 ·have HM:Hid (false=dig c):=by show _=_;unfold dig;rw [decide_eq_false h,Bool.false_and]
  go_enter Tryz.func181,Tryz.ntmps181;go_wp2;go_ret;exact ⟨ret_bool HM.out,rfl⟩
theorem mk_not (c:UInt8) (h:lt c || dig c=true):mk c=false:=by
 unfold mk;unfold lt dig at h;generalize (c.toNat:Int)=x at h ⊢;simp at h ⊢;omega

theorem refStands_any (s:ByteArray) (i:Nat) (w:World) (hi:i < s.size) (hs:s.size <= 1000):Calls Tryz.prog 152 #[.string s,.int .i64 i] w fun e w'=>e = .returned (.bool (stand s.data.toList i))/\w'=w:=by
 cases hl:lt s[i] with
 | true =>
  have HLt:=hide hl
  have HS:Hid (true=stand s.data.toList i):=by
   show _=_
   unfold stand;rw [getD_at s i hi,if_neg (by rw [mk_not _ (by rw [hl];rfl)];simp),hl];rfl
  clear hl;go_enter Tryz.func152,Tryz.ntmps152;go_wp2_with (go_at_call 180;refine (refLetter_any s[i] _).mono ?_;rintro e w' ⟨rfl,rfl⟩;rw [HLt.out]);go_ret;exact ⟨ret_bool HS.out,rfl⟩
 | false =>
  have HLt:=hide hl;clear hl
  cases hd:dig s[i] with
  | true =>
   have HD:=hide hd
   have HS:Hid (true=stand s.data.toList i):=by
    show _=_
    unfold stand;rw [getD_at s i hi,if_neg (by rw [mk_not _ (by rw [hd];simp)];simp),hd];simp
   clear hd;go_enter Tryz.func152,Tryz.ntmps152;go_wp2_with (first | (go_at_call 180;refine (refLetter_any s[i] _).mono ?_;rintro e w' ⟨rfl,rfl⟩;rw [HLt.out]) | (go_at_call 181;refine (refDigit_any s[i] _).mono ?_;rintro e w' ⟨rfl,rfl⟩;rw [HD.out]));go_ret;exact ⟨ret_bool HS.out,rfl⟩
  | false =>
   have HD:=hide hd;clear hd
   cases hm:mk s[i] with
   | false =>
    have HM:=hide hm;clear hm
    have HS:Hid (false=stand s.data.toList i):=by
     show _=_
     unfold stand;rw [getD_at s i hi,if_neg (by rw [HM.out];simp),HLt.out,HD.out];rfl
    go_enter Tryz.func152,Tryz.ntmps152;go_wp2_with (first | (go_at_call 180;refine (refLetter_any s[i] _).mono ?_;rintro e w' ⟨rfl,rfl⟩;rw [HLt.out]) | (go_at_call 181;refine (refDigit_any s[i] _).mono ?_;rintro e w' ⟨rfl,rfl⟩;rw [HD.out]) | (go_at_call 182;refine (refMark_any s[i] _).mono ?_;rintro e w' ⟨rfl,rfl⟩;rw [HM.out]));go_ret;exact ⟨ret_bool HS.out,rfl⟩
   | true =>
    have HM:=hide hm;clear hm;by_cases h0:i=0
    ·have HS:Hid (false=stand s.data.toList i):=by
      show _=_
      unfold stand;rw [getD_at s i hi,if_pos HM.out,decide_eq_false (by omega)];rfl
     subst h0;go_enter Tryz.func152,Tryz.ntmps152;go_wp2_with (first | (go_at_call 180;refine (refLetter_any s[0] _).mono ?_;rintro e w' ⟨rfl,rfl⟩;rw [HLt.out]) | (go_at_call 181;refine (refDigit_any s[0] _).mono ?_;rintro e w' ⟨rfl,rfl⟩;rw [HD.out]) | (go_at_call 182;refine (refMark_any s[0] _).mono ?_;rintro e w' ⟨rfl,rfl⟩;rw [HM.out]));go_ret;exact ⟨ret_bool HS.out,rfl⟩
    ·have h0':((i:Int) == 0)=false:=by simpa using h0
     by_cases h1:i+1 < s.size
     ·have HS:Hid ((!mk (s[i - 1]'(by omega)))=stand s.data.toList i):=by
       show _=_
       unfold stand;rw [getD_at s i hi,getD_at s (i - 1) (by omega),len_at,if_pos HM.out,decide_eq_true (by omega),decide_eq_true h1];rfl
      have hz:((i:Int) - 1).toNat=i - 1:=by omega
      have h1':((i:Int) == (s.size:Int) - 1)=false:=by simp;omega
      have hK:=hide (refMark_any (s[i - 1]'(by omega)));obtain ⟨x,hx⟩:∃ x:Int,((s[i - 1]'(by omega)).toNat:Int)=x:=⟨_,rfl⟩;rw [hx] at hK
      have hi1:1 <= i:=by omega
      clear h0;go_enter Tryz.func152,Tryz.ntmps152;go_wp2_with (first | (go_at_call 180;refine (refLetter_any s[i] _).mono ?_;rintro e w' ⟨rfl,rfl⟩;rw [HLt.out]) | (go_at_call 181;refine (refDigit_any s[i] _).mono ?_;rintro e w' ⟨rfl,rfl⟩;rw [HD.out]));refine (refMark_any s[i] _).mono ?_;rintro e w' ⟨rfl,rfl⟩;rw [HM.out];go_wp2_with fail;refine (hK.out _).mono ?_;rintro e w' ⟨rfl,rfl⟩;go_wp2;go_ret;exact ⟨ret_bool HS.out,rfl⟩
     ·have HS:Hid (false=stand s.data.toList i):=by
       show _=_
       unfold stand;rw [getD_at s i hi,len_at,if_pos HM.out,decide_eq_false h1];simp
      have h1':((i:Int) == (s.size:Int) - 1)=true:=by simp;omega
      clear h0;go_enter Tryz.func152,Tryz.ntmps152;go_wp2_with (first | (go_at_call 180;refine (refLetter_any s[i] _).mono ?_;rintro e w' ⟨rfl,rfl⟩;rw [HLt.out]) | (go_at_call 181;refine (refDigit_any s[i] _).mono ?_;rintro e w' ⟨rfl,rfl⟩;rw [HD.out]));refine (refMark_any s[i] _).mono ?_;rintro e w' ⟨rfl,rfl⟩;rw [HM.out];go_wp2;go_ret;exact ⟨ret_bool HS.out,rfl⟩

theorem refCheck_any (s:ByteArray) (w:World) (hs:s.size <= maxLen):Calls Tryz.prog 124 #[.string s] w fun e w'=>(∃ p:Int,e = .returned (.tuple #[.int .i64 p,.int .i64 (ckE s.data.toList)]))/\w'=w:=by
 unfold maxLen at hs;by_cases h0:s.size=0
 ·have h0':((s.size:Int) == 0)=true:=by simpa using h0
  have HE:Hid (ckE s.data.toList=20):=by show _=_;unfold ckE;rw [len_at,if_pos h0]
  go_enter Tryz.func124,Tryz.ntmps124;go_wp2;go_ret2;exact ⟨⟨0,ret_two rfl HE.out.symm⟩,rfl⟩
 have h0':((s.size:Int) == 0)=false:=by simpa using h0
 by_cases h24:24 < s.size
 ·have HE:Hid (ckE s.data.toList=21):=by show _=_;unfold ckE;rw [len_at,if_neg h0,if_pos h24]
  have h24':(24:Int) < s.size:=by omega
  clear h0;go_enter Tryz.func124,Tryz.ntmps124;go_wp2;go_ret2;exact ⟨⟨0,ret_two rfl HE.out.symm⟩,rfl⟩
 have h24':¬ (24:Int) < s.size:=by omega
 have HE:Hid (ckE s.data.toList=if stands s.data.toList s.size=true then 0 else 22):=by show _=_;unfold ckE;rw [len_at,if_neg h0,if_neg h24]
 clear h0;go_enter Tryz.func124,Tryz.ntmps124;go_wp2;go_loop [4] (fun i=>∃ k:Nat,k <= s.size/\i = .int .i64 k/\Hid (stands s.data.toList k=true)) (fun i=>s.size - (intOf i).toNat)
 case atStart=>exact ⟨0,Nat.zero_le _,rfl,rfl⟩
 case round =>
  obtain ⟨k,hk,rfl,HK⟩:=hrel;by_cases hlt:k < s.size
  ·cases hst:stand s.data.toList k with
   | true =>
    have HST:=hide hst;clear hst;go_wp2_with (go_at_call 152;refine (refStands_any s k _ hlt (by omega)).mono ?_;rintro e w' ⟨rfl,rfl⟩;rw [HST.out]);go_round
    case rel=>exact ⟨k+1,by omega,by go_num,by show _=_;rw [stands_succ,HK.out,HST.out];rfl⟩
    case measure=>simp [intOf];omega
   | false =>
    have HST:=hide hst;clear hst
    have HF:Hid (ckE s.data.toList=22):=by show _=_;rw [HE.out,stands_no _ k _ hlt HST.out];rfl
    go_wp2_with (go_at_call 152;refine (refStands_any s k _ hlt (by omega)).mono ?_;rintro e w' ⟨rfl,rfl⟩;rw [HST.out]);go_ret2;exact ⟨⟨k,ret_two rfl HF.out.symm⟩,rfl⟩
  ·obtain rfl:k=s.size:=by omega
   have HF:Hid (ckE s.data.toList=0):=by show _=_;rw [HE.out,if_pos HK.out]
   go_wp2;go_ret2;exact ⟨⟨0,ret_two rfl HF.out.symm⟩,rfl⟩
theorem refGood_any (s:ByteArray) (w:World) (hs:s.size <= maxLen):Calls Tryz.prog 88 #[.string s] w fun e w'=>e = .returned (.bool (good s.data.toList))/\w'=w:=by
 have HS:=hide hs;clear hs;go_enter Tryz.func88,Tryz.ntmps88;go_wp2_with (go_at_call 124;refine (refCheck_any s _ HS.out).mono ?_;rintro e w' ⟨⟨p,rfl⟩,rfl⟩);go_ret;exact ⟨rfl,rfl⟩
end
section
open Go.RowKit

structure En where
 rep:Int
 num:Int
 sku:ByteArray
 qty:Int
def enC (e:En):List Value:=[.int .i64 e.rep,.int .i64 e.num,.string e.sku,.int .i64 e.qty]
abbrev enV (e:En):Value:=.agg #[.int .i64 e.rep,.int .i64 e.num,.string e.sku,.int .i64 e.qty]
def isR (r:Int):Bool:=decide (0 <= r) && decide (r < 16)
def ceE (e:En):Int:=if isR e.rep=false then 3 else if e.num < 1∨1000000000 < e.num then 2 else if good e.sku.data.toList=false then 5 else if e.qty < 1∨1000000 < e.qty then 6 else 0

theorem isRep_any (r:Int) (w:World):Calls Tryz.prog 112 #[.int .i64 r] w fun e w'=>e = .returned (.bool (isR r))/\w'=w:=by
 go_enter Tryz.func112,Tryz.ntmps112;by_cases h0:0 <= r
 ·have HR:Hid (isR r=decide (r < 16)):=by show _=_;unfold isR;rw [decide_eq_true h0,Bool.true_and]
  go_wp2;go_ret;exact ⟨ret_bool HR.out.symm,rfl⟩
 ·have HR:Hid (isR r=false):=by show _=_;unfold isR;rw [decide_eq_false h0,Bool.false_and]
  go_wp2;go_ret;exact ⟨ret_bool HR.out.symm,rfl⟩

theorem checkEntry_any (e:En) (w:World) (hs:e.sku.size <= maxLen):Calls Tryz.prog 74 #[enV e] w fun x w'=>x = .returned (.int .i64 (ceE e))/\Below w.heap.size w w':=by
 obtain ⟨r,m,s,q⟩:=e;have HB:Hid (Below w.heap.size w (w.alloc (.cells #[.int .i64 r,.int .i64 m,.string s,.int .i64 q] 39))):=(Below.refl _ _).alloc (Nat.le_refl _) _;have HS:Hid (s.size <= maxLen):=hs;clear hs;obtain ⟨x,Hx⟩:∃ x,Hid (isR r=x):=⟨_,rfl⟩;obtain ⟨g,Hg⟩:∃ g,Hid (good s.data.toList=g):=⟨_,rfl⟩
 cases x with
 | false =>
  have HF:Hid (ceE ⟨r,m,s,q⟩=3):=by show _=_;unfold ceE;rw [if_pos Hx.out]
  go_enter Tryz.func74,Tryz.ntmps74;go_wp2_with (go_at_call 112;refine (isRep_any r _).mono ?_;rintro e w' ⟨rfl,rfl⟩;rw [Hx.out]);go_ret;exact ⟨ret_int HF.out.symm,HB.out⟩
 | true =>
  have hx1:0 <= r/\r < 16:=by have:=Hx.out;unfold isR at this;simpa using this
  have hx2:¬ isR r=false:=by rw [Hx.out];simp
  by_cases h1:m < 1
  ·have HF:Hid (ceE ⟨r,m,s,q⟩=2):=by show _=_;unfold ceE;rw [if_neg hx2,if_pos (Or.inl h1)]
   clear hx2;go_enter Tryz.func74,Tryz.ntmps74;go_wp2_with (go_at_call 112;refine (isRep_any r _).mono ?_;rintro e w' ⟨rfl,rfl⟩;rw [Hx.out]);go_ret;exact ⟨ret_int HF.out.symm,HB.out⟩
  by_cases h2:1000000000 < m
  ·have HF:Hid (ceE ⟨r,m,s,q⟩=2):=by show _=_;unfold ceE;rw [if_neg hx2,if_pos (Or.inr h2)]
   clear hx2;go_enter Tryz.func74,Tryz.ntmps74;go_wp2_with (go_at_call 112;refine (isRep_any r _).mono ?_;rintro e w' ⟨rfl,rfl⟩;rw [Hx.out]);go_ret;exact ⟨ret_int HF.out.symm,HB.out⟩
  have hm2:¬ (m < 1∨1000000000 < m):=by omega
  cases g with
  | false =>
   have HF:Hid (ceE ⟨r,m,s,q⟩=5):=by show _=_;unfold ceE;rw [if_neg hx2,if_neg hm2,if_pos Hg.out]
   clear hx2 hm2;go_enter Tryz.func74,Tryz.ntmps74;go_wp2_with (first | (go_at_call 112;refine (isRep_any r _).mono ?_;rintro e w' ⟨rfl,rfl⟩;rw [Hx.out]) | (go_at_call 113;refine (good_any s _ HS.out).mono ?_;rintro e w' ⟨rfl,rfl⟩;rw [Hg.out]));go_ret;exact ⟨ret_int HF.out.symm,HB.out⟩
  | true =>
   have hg2:¬ good s.data.toList=false:=by rw [Hg.out];simp
   by_cases h3:q < 1
   ·have HF:Hid (ceE ⟨r,m,s,q⟩=6):=by show _=_;unfold ceE;rw [if_neg hx2,if_neg hm2,if_neg hg2,if_pos (Or.inl h3)]
    clear hx2 hm2 hg2;go_enter Tryz.func74,Tryz.ntmps74;go_wp2_with (first | (go_at_call 112;refine (isRep_any r _).mono ?_;rintro e w' ⟨rfl,rfl⟩;rw [Hx.out]) | (go_at_call 113;refine (good_any s _ HS.out).mono ?_;rintro e w' ⟨rfl,rfl⟩;rw [Hg.out]));go_ret;exact ⟨ret_int HF.out.symm,HB.out⟩
   by_cases h4:1000000 < q
   ·have HF:Hid (ceE ⟨r,m,s,q⟩=6):=by show _=_;unfold ceE;rw [if_neg hx2,if_neg hm2,if_neg hg2,if_pos (Or.inr h4)]
    clear hx2 hm2 hg2;go_enter Tryz.func74,Tryz.ntmps74;go_wp2_with (first | (go_at_call 112;refine (isRep_any r _).mono ?_;rintro e w' ⟨rfl,rfl⟩;rw [Hx.out]) | (go_at_call 113;refine (good_any s _ HS.out).mono ?_;rintro e w' ⟨rfl,rfl⟩;rw [Hg.out]));go_ret;exact ⟨ret_int HF.out.symm,HB.out⟩
   have hq2:¬ (q < 1∨1000000 < q):=by omega
   have HF:Hid (ceE ⟨r,m,s,q⟩=0):=by show _=_;unfold ceE;rw [if_neg hx2,if_neg hm2,if_neg hg2,if_neg hq2]
   clear hx2 hm2 hg2 hq2;go_enter Tryz.func74,Tryz.ntmps74;go_wp2_with (first | (go_at_call 112;refine (isRep_any r _).mono ?_;rintro e w' ⟨rfl,rfl⟩;rw [Hx.out]) | (go_at_call 113;refine (good_any s _ HS.out).mono ?_;rintro e w' ⟨rfl,rfl⟩;rw [Hg.out]));go_ret;exact ⟨ret_int HF.out.symm,HB.out⟩
end
section
open Go.RowKit

def cmpI (x y:Int):Int:=if x < y then -1 else if y < x then 1 else 0
theorem isNaN_any (x:Int) (w:World):Calls Tryz.prog 138 #[.int .i64 x] w fun e w'=>e = .returned (.bool false)/\w'=w:=by
 have h:(x != x)=false:=by simp
 go_enter Tryz.func138,Tryz.ntmps138;go_wp2_with fail;go_ret;exact ⟨by simp,rfl⟩
theorem cmp_any (x y:Int) (w:World):Calls Tryz.prog 115 #[.int .i64 x,.int .i64 y] w fun e w'=>e = .returned (.int .i64 (cmpI x y))/\w'=w:=by
 by_cases h1:x < y
 ·have HC:Hid (cmpI x y = -1):=by show _=_;unfold cmpI;rw [if_pos h1]
  go_enter Tryz.func115,Tryz.ntmps115;go_wp2_with (go_at_call 138;refine (isNaN_any _ _).mono ?_;rintro e w' ⟨rfl,rfl⟩);go_ret;exact ⟨ret_int HC.out.symm,rfl⟩
 ·by_cases h2:y < x
  ·have HC:Hid (cmpI x y=1):=by show _=_;unfold cmpI;rw [if_neg h1,if_pos h2]
   go_enter Tryz.func115,Tryz.ntmps115;go_wp2_with (go_at_call 138;refine (isNaN_any _ _).mono ?_;rintro e w' ⟨rfl,rfl⟩);go_ret;exact ⟨ret_int HC.out.symm,rfl⟩
  ·have HC:Hid (cmpI x y=0):=by show _=_;unfold cmpI;rw [if_neg h1,if_neg h2]
   go_enter Tryz.func115,Tryz.ntmps115;go_wp2_with (go_at_call 138;refine (isNaN_any _ _).mono ?_;rintro e w' ⟨rfl,rfl⟩);go_ret;exact ⟨ret_int HC.out.symm,rfl⟩
def or2 (a b:Int):Int:=if a=0 then b else a
theorem or_any (g:Nat) (a b:Int) (w:World) (c0:w.cell? ⟨g,0,none⟩=some (.int .i64 a)) (c1:w.cell? ⟨g,1,none⟩=some (.int .i64 b)) :
  Calls Tryz.prog 114 #[.slice (some ⟨g,0,none⟩) 2 2] w fun e w'=>e = .returned (.int .i64 (or2 a b))/\w'=w:=by
 go_enter Tryz.func114,Tryz.ntmps114;go_wp2;go_loop [8] (fun i=>∃ k:Nat,k <= 2/\i = .int .i64 k/\Hid (0 < k -> a=0)/\Hid (1 < k -> b=0)) (fun i=>2 - (intOf i).toNat)
 case atStart=>exact ⟨0,Nat.zero_le _,rfl,fun h=>absurd h (by omega),fun h=>absurd h (by omega)⟩
 case round =>
  obtain ⟨k,hk,rfl,Ha,Hb⟩:=hrel;by_cases hlt:k < 2
  ·obtain ⟨z,hcell,Hz⟩:∃ z,w.cell? ⟨g,k,none⟩=some (.int .i64 z)/\Hid (or2 a b=if z=0/\k=0 then b else z):=by
    match k,hlt,Ha with
    | 0,_,_=>exact ⟨a,c0,by show _=_;unfold or2;by_cases h:a=0 <;> simp [h]⟩
    | 1,_,Ha=>exact ⟨b,c1,by show _=_;unfold or2;rw [if_pos (Ha.out (by omega))];simp⟩
   have Hz0:Hid (z=0 -> (k=0 -> a=0)/\(k=1 -> b=0)):=by
    intro hz;constructor
    ·intro h;subst h;rw [c0] at hcell;simpa [hz] using hcell
    ·intro h;subst h;rw [c1] at hcell;simpa [hz] using hcell
   clear c0 c1;by_cases h0:z=0
   ·have hA:=(Hz0.out h0).1;have hB:=(Hz0.out h0).2
    have HA:Hid (0 < k+1 -> a=0):=by intro _;by_cases hk0:k=0;exact hA hk0;exact Ha.out (by omega)
    have HB:Hid (1 < k+1 -> b=0):=by intro _;exact hB (by omega)
    have h0':(z != 0)=false:=by simpa using h0
    clear h0 hA hB;go_wp2;go_round
    case rel=>exact ⟨k+1,by omega,by go_num,HA,HB⟩
    case measure=>simp [intOf];omega
   ·have h0':(z != 0)=true:=by simpa using h0
    have HF:Hid (or2 a b=z):=by show _=_;rw [Hz.out,if_neg (by simp [h0])]
    clear h0;go_wp2;go_ret;exact ⟨ret_int HF.out.symm,rfl⟩
  ·have HF:Hid (or2 a b=0):=by show _=_;unfold or2;rw [if_pos (Ha.out (by omega))];exact Hb.out (by omega)
   clear c0 c1;go_wp2;go_ret;exact ⟨ret_int HF.out.symm,rfl⟩
def byD (x y:En):Int:=or2 (cmpI x.rep y.rep) (cmpI x.num y.num)
def ahead (x y:En):Bool:=decide (x.rep < y.rep) || (x.rep == y.rep && decide (x.num < y.num))
theorem below_drew {n:Nat} {w w':World} (h:Below n w w'):Below n w w'.drew:=h.trans ⟨rfl,rfl,rfl,Nat.le_refl _,fun _ _=>rfl⟩
theorem below_new (w:World) (o:Obj):Below w.heap.size w (w.alloc o):=(Below.refl _ _).alloc (Nat.le_refl _) _
structure Two (w W:World) (x y:En):Prop where
 below:Below w.heap.size w W
 size:w.heap.size+2 <= W.heap.size
 a0:W.cell? ⟨w.heap.size,0,none⟩=some (.int .i64 x.rep)
 a1:W.cell? ⟨w.heap.size,1,none⟩=some (.int .i64 x.num)
 b0:W.cell? ⟨w.heap.size+1,0,none⟩=some (.int .i64 y.rep)
 b1:W.cell? ⟨w.heap.size+1,1,none⟩=some (.int .i64 y.num)
theorem Two.start (w:World) (x y:En):Two w ((w.alloc (.cells #[.int .i64 x.rep,.int .i64 x.num,.string x.sku,.int .i64 x.qty] 39)).alloc (.cells #[.int .i64 y.rep,.int .i64 y.num,.string y.sku,.int .i64 y.qty] 39)) x y:=
 ⟨(below_new w _).trans ((below_new _ _).mono (by simp)),by simp,by simp,by simp,by simp,by simp⟩
theorem Two.on {w W W':World} {x y:En} (h:Two w W x y) (hb:Below W.heap.size W W'):Two w W' x y:=
 ⟨h.below.trans (hb.mono h.below.size),Nat.le_trans h.size hb.size,(hb.cell (World.block_lt_of_cell? _ _ h.a0)).trans h.a0,(hb.cell (World.block_lt_of_cell? _ _ h.a1)).trans h.a1,(hb.cell (World.block_lt_of_cell? _ _ h.b0)).trans h.b0,(hb.cell (World.block_lt_of_cell? _ _ h.b1)).trans h.b1⟩
theorem or_new (a b:Int) (w:World) (g:Nat) (hg:w.heap.size=g):Calls Tryz.prog 114 #[.slice (some ⟨g,0,none⟩) 2 2] (w.alloc (.cells #[.int .i64 a,.int .i64 b] 3)) fun e w'=>e = .returned (.int .i64 (or2 a b))/\w'=w.alloc (.cells #[.int .i64 a,.int .i64 b] 3):=by
 subst hg;exact or_any w.heap.size a b _ (by simp) (by simp)
theorem byDot_any (x y:En) (w:World):Calls Tryz.prog 75 #[enV x,enV y] w fun e w'=>e = .returned (.int .i64 (byD x y))/\Below w.heap.size w w':=by
 have T0:=hide (Two.start w x y);obtain ⟨w0,Hw0⟩:∃ w0,Hid ((w.alloc (.cells #[.int .i64 x.rep,.int .i64 x.num,.string x.sku,.int .i64 x.qty] 39)).alloc (.cells #[.int .i64 y.rep,.int .i64 y.num,.string y.sku,.int .i64 y.qty] 39)=w0):=⟨_,rfl⟩;rw [Hw0.out] at T0;have c1:=T0.out.a0;have c2:=T0.out.a1;have c3:=T0.out.b0;have c4:=T0.out.b1;obtain ⟨p,Hp⟩:∃ p,Hid (cmpI x.rep y.rep=p):=⟨_,rfl⟩;obtain ⟨q,Hq⟩:∃ q,Hid (cmpI x.num y.num=q):=⟨_,rfl⟩
 have C1:Hid (∀ W,Calls Tryz.prog 115 #[.int .i64 x.rep,.int .i64 y.rep] W fun e w'=>e = .returned (.int .i64 p)/\w'=W):=fun W=>by rw [<- Hp.out];exact cmp_any _ _ W
 have C2:Hid (∀ W,Calls Tryz.prog 115 #[.int .i64 x.num,.int .i64 y.num] W fun e w'=>e = .returned (.int .i64 q)/\w'=W):=fun W=>by rw [<- Hq.out];exact cmp_any _ _ W
 have HF:Hid (or2 p q=byD x y):=by show _=_;unfold byD;rw [Hp.out,Hq.out]
 have T1:Hid (Two w (w0.drew.alloc (.cells #[.int .i64 p,.int .i64 q] 3)) x y):=(T0.out.on (below_drew (Below.refl _ _))).on (below_new _ _);have HO:=hide (or_new p q w0.drew w0.heap.size rfl);obtain ⟨r,m,s,q⟩:=x;obtain ⟨r',m',s',q'⟩:=y;go_enter Tryz.func75,Tryz.ntmps75;go_wp2_with fail;rw [Hw0.out]
 first | (go_region_held (fun W=>W.cell? ⟨w.heap.size,0,none⟩=some (.int .i64 r)/\W.cell? ⟨w.heap.size,1,none⟩=some (.int .i64 m)/\W.cell? ⟨w.heap.size+1,0,none⟩=some (.int .i64 r')/\W.cell? ⟨w.heap.size+1,1,none⟩=some (.int .i64 m')) (first | exact ⟨T1.out.a0,T1.out.a1,T1.out.b0,T1.out.b1⟩ | go_keep) (first | (go_at_call_of 115 r;refine (C1.out _).mono ?_;rintro e w' ⟨rfl,rfl⟩) | (go_at_call_of 115 m;refine (C2.out _).mono ?_;rintro e w' ⟨rfl,rfl⟩) | (go_at_call 114;refine HO.out.mono ?_;rintro e w' ⟨rfl,rfl⟩))) | fail
 all_goals (go_wp2_with fail)
 all_goals go_ret
 all_goals exact ⟨ret_int HF.out,T1.out.below⟩
end
section
open Go.RowKit

def EC (e:En):Array Value:=#[.int .i64 e.rep,.int .i64 e.num,.string e.sku,.int .i64 e.qty]
abbrev EV (e:En):Value:=.agg (EC e)
theorem EC_size (e:En):(EC e).size=4:=rfl
theorem EC_one (e:En):∀ v∈(EC e).toList,v.oneCell'=true:=by
 intro v hv;simp [EC] at hv;rcases hv with rfl | rfl | rfl | rfl <;> rfl
theorem cells_EV (e:En):(EV e).cells=EC e:=by simp [Value.cells]
def en0:En:=⟨0,0,⟨#[]⟩,0⟩
theorem zero_EC:(#[.int .i64 0,.int .i64 0,.string ⟨#[]⟩,.int .i64 0]:Array Value)=EC en0:=rfl
structure EnAt (w:World) (p:Addr) (e:En):Prop where
 c0:w.cell? p=some (.int .i64 e.rep)
 c1:w.cell? (p.add 1)=some (.int .i64 e.num)
 c2:w.cell? (p.add 2)=some (.string e.sku)
 c3:w.cell? (p.add 3)=some (.int .i64 e.qty)
theorem add_zero (p:Addr):p.add 0=p:=by unfold Addr.add;split <;> simp_all
theorem block_add (p:Addr) (m:Nat):(p.add m).block=p.block:=by unfold Addr.add;split <;> rfl
theorem EnAt.on {w w':World} {p:Addr} {e:En} (S:EnAt w p e) (hb:Below w.heap.size w w'):EnAt w' p e:=by
 have h0:=World.block_lt_of_cell? _ _ S.c0;exact ⟨by rw [hb.cell h0];exact S.c0,by rw [hb.cell (by rw [block_add];exact h0)];exact S.c1,by rw [hb.cell (by rw [block_add];exact h0)];exact S.c2,by rw [hb.cell (by rw [block_add];exact h0)];exact S.c3⟩
def Box (w:World) (g:Nat) (T:TypeId) (e:En):Prop:=w.heap[g]? = some (.cells (EC e) T (0,0))
theorem Box.lt {w:World} {g:Nat} {T:TypeId} {e:En} (h:Box w g T e):g < w.heap.size:=(Array.getElem?_eq_some_iff.1 h).1
theorem Box.at {w:World} {g:Nat} {T:TypeId} {e:En} (h:Box w g T e):EnAt w ⟨g,0,none⟩ e:=by
 unfold Box at h;refine ⟨?_,?_,?_,?_⟩ <;> simp [Addr.add,World.cell?,h,EC]
theorem Box.below {w w':World} {g:Nat} {T:TypeId} {e:En} (h:Box w g T e) (hb:Below w.heap.size w w'):Box w' g T e:=(hb.block g h.lt).trans h
theorem box_new (w:World) (T:TypeId) (e:En):Box (w.alloc (.cells (EC e) T)) w.heap.size T e:=by unfold Box;rw [heap_alloc_new]

def ld28 (v:Value):Sem Value:=Instr.loadAt 39 v
theorem ld28_eq (v:Value):Instr.loadAt 39 v=ld28 v:=rfl
def st28 (p v:Value):Sem Unit:=Instr.storeAt 39 p v
theorem st28_eq (p v:Value):Instr.storeAt 39 p v=st28 p v:=rfl
theorem size28:(Tryz.prog.info? 39).map (·.size)=some 4:=by kernel_rfl
theorem run_lv28 {w:World} {p:Addr} {e:En} (A:EnAt w p e):(loadVar 39 p).run Tryz.prog w = .ok (EV e) w:=by
 have hl:=run_loadCells_list (P:=Tryz.prog) (w:=w) p (EC e).toList (fun j v hv=>by
  match j,hv with
  | 0,hv=>cases hv;rw [add_zero];exact A.c0
  | 1,hv=>cases hv;exact A.c1
  | 2,hv=>cases hv;exact A.c2
  | 3,hv=>cases hv;exact A.c3
  | j+4,hv=>simp [EC] at hv)
 cases hq:Tryz.prog.info? 39 with
 | none=>have:=size28;simp [hq] at this
 | some x =>
  have hs:x.size=4:=by have:=size28;simpa [hq] using this
  have hagg:(isAgg 39).run Tryz.prog w = .ok true w:=by
   unfold isAgg;rw [Sem.run_bind,run_underlying Tryz.underlying39 w];rfl
  have e4:(EC e).toList.length=4:=rfl;rw [e4] at hl;simp [loadVar,Sem.run_bind,hagg,sizeOf,typeInfo,hq,hs,hl,EV]
theorem run_ld28 {w:World} {p:Addr} {e:En} (A:EnAt w p e):(ld28 (.pointer (some p))).run Tryz.prog w = .ok (EV e) w:=by
 unfold ld28;simp only [Instr.loadAt,Instr.sureAddr,Sem.run_bind,Sem.run_pure,Result.andThen];exact run_lv28 A
theorem run_st28 {w:World} {g:Nat} {T:TypeId} {e e':En} (A:Box w g T e) :
  (st28 (.pointer (some ⟨g,0,none⟩)) (EV e')).run Tryz.prog w = .ok () (w.setRow g (EC e')):=by
 unfold st28;have h:=run_storeCells_from (P:=Tryz.prog) g T (EC e').toList 0 (EC e) w A (by simp [EC]) (EC_one e')
 cases hq:Tryz.prog.info? 39 with
 | none=>have:=size28;simp [hq] at this
 | some x =>
  have hs:x.size=4:=by have:=size28;simpa [hq] using this
  simp only [Instr.storeAt,Instr.sureAddr,Sem.run_bind,Sem.run_pure,Result.andThen,storeVar,sizeOf,typeInfo,cells_EV,EC_size];simp at h;simp [h,hq,hs]
theorem Box.setRow {w:World} {g:Nat} {T:TypeId} {e e':En} (A:Box w g T e):Box (w.setRow g (EC e')) g T e':=setRow_heap w g _ _ _ _ A
theorem below_setRow {w w':World} {n g:Nat} {cs:Array Value} (h:Below n w w') (hg:n <= g):Below n w (w'.setRow g cs):=
 h.trans ⟨rfl,rfl,rfl,by simp [World.setRow],fun k hk=>setRow_other _ _ _ _ (by omega)⟩
theorem made (w:World) (e:En) (g:Nat) (hg:w.heap.size=g):∃ w':World,(st28 (.pointer (some ⟨g,0,none⟩)) (EV e)).run Tryz.prog (w.alloc (.cells (EC en0) 39)) = .ok () w'/\Box w' g 39 e/\Below w.heap.size w w'/\w'.heap.size=w.heap.size+1:=by
 subst hg;refine ⟨_,run_st28 (box_new w 39 en0),(box_new w 39 en0).setRow,below_setRow (below_new w _) (Nat.le_refl _),by simp [World.setRow]⟩

def ESrc (w:World) (ao:Option Addr) (m c:Nat) (L:List En):Prop:=
 L.length=m/\(ao=none -> m=0/\c=0)/\(∀ ad,ao=some ad -> ∀ t,t < m -> EnAt w (ad.add (t * 4)) (L.getD t en0))/\(∀ e∈L,e.sku.size <= maxLen)/\m <= 3518437208883
theorem ESrc.below {w w':World} {ao:Option Addr} {m c:Nat} {L:List En} (h:ESrc w ao m c L) (hb:Below w.heap.size w w'):ESrc w' ao m c L:=
 ⟨h.1,h.2.1,fun ad ha t ht=>(h.2.2.1 ad ha t ht).on hb,h.2.2.2⟩
theorem ESrc.at {w:World} {ao:Option Addr} {m c:Nat} {L:List En} (h:ESrc w ao m c L) (k:Nat) (hk:k < m):∃ ad,ao=some ad/\EnAt w (ad.add (k * 4)) (L.getD k en0):=by
 cases ao with
 | none=>have:=h.2.1 rfl;omega
 | some ad=>exact ⟨ad,rfl,h.2.2.1 ad rfl k hk⟩
theorem ESrc.sku {w:World} {ao:Option Addr} {m c:Nat} {L:List En} (h:ESrc w ao m c L) (k:Nat) (hk:k < m):(L.getD k en0).sku.size <= maxLen:=by
 have:L.getD k en0=L[k]'(by rw [h.1];exact hk):=by simp [List.getD,h.1,hk]
 rw [this];exact h.2.2.2.1 _ (List.getElem_mem _)
theorem ESrc.none (w:World):ESrc w none 0 0 []:=⟨rfl,fun _=>⟨rfl,rfl⟩,(fun ad h=>by cases h),(fun e he=>by cases he),by omega⟩
theorem checkEntry_ec (e:En) (w:World) (hs:e.sku.size <= maxLen):Calls Tryz.prog 74 #[EV e] w fun x w'=>x = .returned (.int .i64 (ceE e))/\Below w.heap.size w w':=checkEntry_any e w hs
theorem byDot_ec (x y:En) (w:World):Calls Tryz.prog 75 #[EV x,EV y] w fun e w'=>e = .returned (.int .i64 (byD x y))/\Below w.heap.size w w':=byDot_any x y w
end
section
open Go.RowKit
attribute [local go_sem ↓] ld28_eq st28_eq
attribute [local go_sem] zero_EC cells_EV
def okAt (L:List En) (k:Nat):Bool:=ceE (L.getD k en0) == 0 && (decide (k=0) || ahead (L.getD (k - 1) en0) (L.getD k en0))
def okN (L:List En) (k:Nat):Bool:=(List.range k).all (okAt L)
def chk (L:List En):Int:=if okN L L.length=true then 0 else 1
theorem okN_succ (L:List En) (k:Nat):okN L (k+1)=(okN L k && okAt L k):=by unfold okN;rw [List.range_succ,List.all_append];simp
theorem okN_no (L:List En) (k n:Nat) (h:k < n) (hs:okAt L k=false):okN L n=false:=by
 unfold okN;rw [List.all_eq_false];exact ⟨k,by simpa using h,by rw [hs];simp⟩
theorem byD_ahead (x y:En):decide (0 <= byD x y) = !ahead x y:=by
 unfold byD ahead or2 cmpI;by_cases h1:x.rep < y.rep
 ·simp [h1]
 ·by_cases h2:y.rep < x.rep
  ·have:¬ x.rep=y.rep:=by omega
   simp [h1,h2,this]
  ·have:x.rep=y.rep:=by omega
   by_cases h3:x.num < y.num
   ·simp [this,h3]
   ·by_cases h4:y.num < x.num
    ·simp [this,h3,h4]
    ·simp [this,h3,h4]

theorem lcheck_any (ao:Option Addr) (n cap:Nat) (L:List En) (w:World) (hS:ESrc w ao n cap L) :
  Calls Tryz.prog 36 #[.slice ao n cap] w fun e w'=>e = .returned (.int .i64 (chk L))/\Below w.heap.size w w':=by
 have HS:=hide hS;have hn:=hS.2.2.2.2;have HL:Hid (L.length=n):=hS.1;clear hS;go_enter Tryz.func36,Tryz.ntmps36;go_wp2_with fail;go_loopw [7] (fun i wr=>∃ k:Nat,k <= n/\i = .int .i64 k/\Hid (okN L k=true)/\Hid (Below w.heap.size w wr)) (fun i _=>n - (intOf i).toNat)
 case atStart=>exact ⟨0,Nat.zero_le _,rfl,rfl,Below.refl _ _⟩
 case round =>
  obtain ⟨k,hk,rfl,HK,HB⟩:=hrel;by_cases hlt:k < n
  ·obtain ⟨ad,rfl,A0⟩:=(HS.out.below HB.out).at k hlt;have hld:=run_ld28 A0;obtain ⟨e,He⟩:∃ e,Hid (L.getD k en0=e):=⟨_,rfl⟩;have hsk:=HS.out.sku k hlt;rw [He.out] at hld hsk A0;obtain ⟨w1,hst,X1,B1,Z1⟩:=made wr e wr.heap.size rfl;have HX:=hide X1;have HB1:=hide B1;have HSK:=hide hsk;clear X1 B1 hsk A0
   have le:∀ d os,(ld28 (.pointer (some ⟨wr.heap.size,0,none⟩))).run Tryz.prog (Sort.grow (redrawn w1 d) os) = .ok (EV e) (Sort.grow (redrawn w1 d) os):=fun d os=>run_ld28 (HX.out.below (below_regrown w1 d os)).at
   obtain ⟨c,Hc⟩:∃ c,Hid (ceE e=c):=⟨_,rfl⟩
   have cE:∀ d os,Calls Tryz.prog 74 #[EV e] (Sort.grow (redrawn w1 d) os) fun x w''=>x = .returned (.int .i64 c)/\∃ p:Regrown,w''=Sort.grow (redrawn w1 p.d) p.os:=fun d os=>by
    have:=checkEntry_ec e (Sort.grow (redrawn w1 d) os) HSK.out;rw [Hc.out] at this;exact Calls.regrown_of this
   by_cases h0:c=0
   ·have h0':(c != 0)=false:=by simpa using h0
    by_cases hk0:k=0
    ·have HN:Hid (okN L (k+1)=true):=by show _=_;rw [okN_succ,HK.out];unfold okAt;rw [He.out,Hc.out,h0];simp [hk0]
     subst hk0;rw [Nat.zero_mul,add_zero] at hld;clear h0;go_wp2_with fail;refine wp_region_quiet_below (by kernel_rfl) (by kernel_rfl) ?_
     repeat (with_reducible (refine wpQuiet_step ?_);intro K hK;go_simp;(try rw [if_neg (by unfold undef;simp)]);first | (with_reducible (refine hK _ ?_);clear hK K) | (apply Exists.intro;refine ⟨fun _=>?_,hK _ ?_⟩;(go_at_call 74;exact cE _ _);clear hK K))
     with_reducible (refine wpQuiet_nil ?_)
     intro _ hw';obtain ⟨⟨dq,osq⟩,hw''⟩:=hw';subst hw'';have HBE:Hid (Below w.heap.size w (Sort.grow (redrawn w1 dq) osq)):=(HB.out.trans (HB1.out.mono HB.out.size)).trans ((below_regrown w1 dq osq).mono (Nat.le_trans HB.out.size (by rw [Z1];omega)));go_wp2_with fail;go_roundw
     case rel=>exact ⟨0+1,by omega,by go_num,HN,HBE⟩
     case measure=>simp [intOf];omega
    ·have hk1:decide ((0:Int) < (k:Int))=true:=decide_eq_true (by omega)
     have hk2:0 < k:=by omega
     obtain ⟨j,hj⟩:∃ j,k - 1=j:=⟨_,rfl⟩
     have hz:IntKind.i64.wrap ((k:Int) - 1)=(j:Int):=by rw [IntKind.wrap_i64];omega
     have hjn:j < n:=by omega
     have A1:=((HS.out.below HB.out).2.2.1 ad rfl j (by omega)).on HB1.out;obtain ⟨e1,He1⟩:∃ e1,Hid (L.getD j en0=e1):=⟨_,rfl⟩;rw [He1.out] at A1;have HA1:=hide A1;clear A1;have l1:∀ d os,(ld28 (.pointer (some (ad.add (j * 4))))).run Tryz.prog (Sort.grow (redrawn w1 d) os) = .ok (EV e1) (Sort.grow (redrawn w1 d) os):=fun d os=>run_ld28 (HA1.out.on (below_regrown w1 d os));obtain ⟨q,Hq⟩:∃ q,Hid (byD e1 e=q):=⟨_,rfl⟩
     have cD:∀ d os,Calls Tryz.prog 75 #[EV e1,EV e] (Sort.grow (redrawn w1 d) os) fun x w''=>x = .returned (.int .i64 q)/\∃ p:Regrown,w''=Sort.grow (redrawn w1 p.d) p.os:=fun d os=>by
      have:=byDot_ec e1 e (Sort.grow (redrawn w1 d) os);rw [Hq.out] at this;exact Calls.regrown_of this
     have hq:=byD_ahead e1 e;rw [Hq.out] at hq
     have hok:okAt L k=ahead e1 e:=by unfold okAt;rw [He.out,Hc.out,h0,hj,He1.out];simp [hk0]
     clear h0 hk0;by_cases h1:0 <= q
     ·have HF:Hid (chk L=1):=by
       show _=_;unfold chk;rw [okN_no L k _ (by rw [HL.out];exact hlt) (by rw [hok];simpa [h1] using hq)];rfl
      clear hq hok;go_wp2_with fail;refine wp_region_quiet_below (by kernel_rfl) (by kernel_rfl) ?_
      repeat (with_reducible (refine wpQuiet_step ?_);intro K hK;go_simp;(try rw [if_neg (by unfold undef;simp)]);first | (with_reducible (refine hK _ ?_);clear hK K) | (apply Exists.intro;refine ⟨fun _=>?_,hK _ ?_⟩;(first | (go_at_call 74;exact cE _ _) | (go_at_call 75;exact cD _ _));clear hK K))
      with_reducible (refine wpQuiet_nil ?_)
      intro _ hw';obtain ⟨⟨dq,osq⟩,hw''⟩:=hw';subst hw'';have HBE:Hid (Below w.heap.size w (Sort.grow (redrawn w1 dq) osq)):=(HB.out.trans (HB1.out.mono HB.out.size)).trans ((below_regrown w1 dq osq).mono (Nat.le_trans HB.out.size (by rw [Z1];omega)));go_wp2_with fail;go_ret;exact ⟨ret_int HF.out.symm,HBE.out⟩
     ·have HN:Hid (okN L (k+1)=true):=by show _=_;rw [okN_succ,HK.out,hok];simpa [h1] using hq
      clear hq hok;go_wp2_with fail;refine wp_region_quiet_below (by kernel_rfl) (by kernel_rfl) ?_
      repeat (with_reducible (refine wpQuiet_step ?_);intro K hK;go_simp;(try rw [if_neg (by unfold undef;simp)]);first | (with_reducible (refine hK _ ?_);clear hK K) | (apply Exists.intro;refine ⟨fun _=>?_,hK _ ?_⟩;(first | (go_at_call 74;exact cE _ _) | (go_at_call 75;exact cD _ _));clear hK K))
      with_reducible (refine wpQuiet_nil ?_)
      intro _ hw';obtain ⟨⟨dq,osq⟩,hw''⟩:=hw';subst hw'';have HBE:Hid (Below w.heap.size w (Sort.grow (redrawn w1 dq) osq)):=(HB.out.trans (HB1.out.mono HB.out.size)).trans ((below_regrown w1 dq osq).mono (Nat.le_trans HB.out.size (by rw [Z1];omega)));go_wp2_with fail;go_roundw
      case rel=>exact ⟨k+1,by omega,by go_num,HN,HBE⟩
      case measure=>simp [intOf];omega
   ·have h0':(c != 0)=true:=by simpa using h0
    have HF:Hid (chk L=1):=by
     show _=_;unfold chk;rw [okN_no L k _ (by rw [HL.out];exact hlt) (by unfold okAt;rw [He.out,Hc.out];simp [h0])];rfl
    clear h0;go_wp2_with fail;refine wp_region_quiet_below (by kernel_rfl) (by kernel_rfl) ?_
    repeat (with_reducible (refine wpQuiet_step ?_);intro K hK;go_simp;(try rw [if_neg (by unfold undef;simp)]);first | (with_reducible (refine hK _ ?_);clear hK K) | (apply Exists.intro;refine ⟨fun _=>?_,hK _ ?_⟩;(go_at_call 74;exact cE _ _);clear hK K))
    with_reducible (refine wpQuiet_nil ?_)
    intro _ hw';obtain ⟨⟨dq,osq⟩,hw''⟩:=hw';subst hw'';have HBE:Hid (Below w.heap.size w (Sort.grow (redrawn w1 dq) osq)):=(HB.out.trans (HB1.out.mono HB.out.size)).trans ((below_regrown w1 dq osq).mono (Nat.le_trans HB.out.size (by rw [Z1];omega)));go_wp2_with fail;go_ret;exact ⟨ret_int HF.out.symm,HBE.out⟩
  ·obtain rfl:k=n:=by omega
   have HF:Hid (chk L=0):=by show _=_;unfold chk;rw [HL.out,HK.out];rfl
   go_wp2_with fail;go_ret;exact ⟨ret_int HF.out.symm,HB.out⟩
end
end Go.Proofs.YtaphmhbmhcahaabGreat.K
namespace Go.Proofs
open Go.Shelf
def Tryz.lays106_ren:Go.Shelf.Ren:=⟨fun | 106=>70 | 213=>107 | 265=>136 | n=>n,fun | 9=>9 | 3=>3 | n=>n,fun | n=>n⟩
theorem Tryz.lays106:Go.Proofs.Lays.n106 Tryz.prog Tryz.lays106_ren:={
 mixed:=by kernel_rfl
 f106:=Tryz.func70.trans (congrArg some (by kernel_rfl))
 f213:=Tryz.func107.trans (congrArg some (by kernel_rfl))
 f265:=Tryz.func136.trans (congrArg some (by kernel_rfl))
 t3:=Tryz.underlying3
 a3:=Tryz.isAgg3
 z3:=Tryz.sizeOf3
 v3:=Tryz.zeroValue3
 t9:=Tryz.underlying9
 a9:=Tryz.isAgg9
 z9:=Tryz.sizeOf9
 v9:=Tryz.zeroValue9 }
theorem Tryz.strings_Compare (a b:ByteArray) (w:World) :
  Calls Tryz.prog 70 #[.string a,.string b] w fun e w'=>e = .returned (.int .i64 (Lib.compareBytes a.data.toList b.data.toList))/\w'=w:=Any.strings_Compare Tryz.lays106 a b w
end Go.Proofs
namespace Go.Proofs.YtaphmhbmhcahaabGreat
open Go.RowKit
attribute [local go_sem ↓] ldP_eq stP_eq ldRe_eq stRe_eq
attribute [local go_sem] cells_PV PC_size cells_ReV ReC_size
structure Rc where
 s:ByteArray
 p:Pv
def rc0:Rc:=⟨⟨#[]⟩,pv0⟩
def mkR (r:Rc):RecV:=⟨r.s,r.p.vo,r.p.vn,r.p.vc,r.p.co,r.p.cn,r.p.cc⟩
theorem ReBox.sk {w:World} {g:Nat} {r:Rc} (h:ReBox w g (mkR r)):w.cell? ⟨g,0,none⟩=some (.string r.s):=h.c0
theorem ReBox.past {w:World} {g:Nat} {r:Rc} (h:ReBox w g (mkR r)):PAt w ⟨g,1,none⟩ r.p:=⟨h.c1,h.c2⟩
def RcOk (w:World) (r:Rc):Prop:=PSrc w r.p/\r.s.size <= maxLen
theorem RcOk.below {w w':World} {r:Rc} (h:RcOk w r) (hb:Below w.heap.size w w'):RcOk w' r:=⟨h.1.below hb,h.2⟩
def EmptyP (P:Pst):Prop:=∀ r,r < 16 -> ∀ n,¬ mem (runsAt P r) n
def skuR (s:ByteArray):Bool:=decide (s.size=0) || K.good s.data.toList
def FormP (P:Pst):Prop:=InForm P/\¬ EmptyP P
theorem pick_nil (F:Value) (w:World):Calls Tryz.prog 99 #[.slice none 0 0,F] w fun e w'=>e = .returned (.slice none 0 0)/\Below w.heap.size w w':=by
 go_enter Tryz.func99,Tryz.ntmps99;go_wp2_with fail;go_loopw [5,10] (fun o i wr=>o = .slice none 0 0/\i = .int .i64 0/\wr=w) (fun _ _ _=>0)
 case atStart=>exact ⟨rfl,rfl,rfl⟩
 case round =>
  obtain ⟨rfl,rfl,rfl⟩:=hrel;go_wp2_with fail;go_ret;exact ⟨rfl,Below.refl _ _⟩
def ofE (s:ByteArray):Int:=if K.good s.data.toList=true then 0 else 5
theorem esrc_nil (w:World):K.ESrc w none 0 0 []:=⟨rfl,fun _=>⟨rfl,rfl⟩,(fun ad h=>by cases h),(fun e h=>by cases h),by decide⟩
theorem of_nil (s:ByteArray) (w:World) (hs:s.size <= maxLen):Calls Tryz.prog 135 #[.slice none 0 0,.string s] w fun e w'=>∃ x,e = .returned (.tuple #[.slice none 0 0,.int .i64 x])/\x=ofE s/\Below w.heap.size w w':=by
 have b1:=below_new w (.cells #[.string s] 9);obtain ⟨wk,hwk⟩:∃ wk,w.alloc (.cells #[.string s] 9)=wk:=⟨_,rfl⟩
 have c1:wk.cell? ⟨w.heap.size,0,none⟩=some (.string s):=by rw [<- hwk];have h:=heap_alloc_new w (.cells #[.string s] 9);simp only [World.cell?,h];rfl
 rw [hwk] at b1;have HB:=hide b1;clear b1;go_enter Tryz.func135,Tryz.ntmps135;go_wp2_with fail;clear hwk;refine (K.lcheck_any none 0 0 [] _ (esrc_nil _)).mono ?_;rintro e w2 ⟨rfl,b2⟩;have c2:=(b2.cell (World.block_lt_of_cell? _ _ c1)).trans c1;have HB2:=wTr HB b2;clear b2 c1;rw [show K.chk []=0 from rfl];go_wp2_with fail;refine (K.good_any s _ hs).mono ?_;rintro e w' ⟨rfl,rfl⟩
 cases hg:K.good s.data.toList with
 | false =>
  have HE:Hid (5=ofE s):=by show _=_;unfold ofE;rw [hg];rfl
  clear hg;go_wp2_with fail;go_ret2;exact ⟨5,rfl,HE.out,HB2.out⟩
 | true =>
  have HE:Hid (0=ofE s):=by show _=_;unfold ofE;rw [hg];rfl
  clear hg;go_wp2_with fail;refine (pick_nil _ _).mono ?_;rintro e w3 ⟨rfl,b3⟩;have HB3:=wTr HB2 b3;clear b3 c2;go_wp2_with fail;go_ret2;exact ⟨0,rfl,HE.out,HB3.out⟩
theorem isSkuOrEmpty_any (s:ByteArray) (w:World) (hs:s.size <= maxLen):Calls Tryz.prog 106 #[.string s] w fun e w'=>e = .returned (.bool (skuR s))/\Below w.heap.size w w':=by
 go_enter Tryz.func106,Tryz.ntmps106;go_wp2_with fail;refine (of_nil s _ hs).mono ?_;rintro e w2 ⟨x,rfl,hx,b2⟩;have HB2:=hide b2;clear b2;by_cases h0:s.size=0
 ·have e0:=K.empty_yes s h0
  have HR:Hid (skuR s=true):=by show _=_;unfold skuR;rw [decide_eq_true h0,Bool.true_or]
  clear h0 hx;go_wp2_with fail;go_ret;exact ⟨by rw [HR.out];rfl,HB2.out⟩
 ·have e0:=K.empty_no s h0
  have HR:Hid (skuR s=K.good s.data.toList):=by show _=_;unfold skuR;rw [decide_eq_false h0,Bool.false_or]
  cases hg:K.good s.data.toList with
  | true =>
   rw [hg] at HR
   obtain rfl:x=0:=by rw [hx];unfold ofE;rw [hg];rfl
   clear h0 hx hg;go_wp2_with fail;go_ret;exact ⟨by rw [HR.out];rfl,HB2.out⟩
  | false =>
   rw [hg] at HR
   obtain rfl:x=5:=by rw [hx];unfold ofE;rw [hg];rfl
   clear h0 hx hg;go_wp2_with fail;go_ret;exact ⟨by rw [HR.out];rfl,HB2.out⟩
def RecE (r:Rc) (x:Int):Prop:=(skuR r.s=false/\x=5)∨(skuR r.s=true/\¬ FormP r.p.P/\x=1)∨(skuR r.s=true/\FormP r.p.P/\x=0)
theorem RecE.zero {r:Rc} {x:Int} (h:RecE r x):x=0↔(skuR r.s=true/\FormP r.p.P):=by
 rcases h with ⟨h1,rfl⟩ | ⟨h1,h2,rfl⟩ | ⟨h1,h2,rfl⟩
 ·simp [h1]
 ·simp [h2]
 ·simp [h1,h2]
theorem checkRecord_any (r:Rc) (w:World) (hR:RcOk w r):Calls Tryz.prog 69 #[ReV (mkR r)] w fun e w'=>GivesK w w' e (RecE r):=by
 have HX:=hide (ReBox_new w (mkR r));have HBK:=hide (below_new w (.cells (ReC (mkR r)) 56));have HS:=hide (hR.1.below HBK.out);have hs:=hR.2;clear hR;obtain ⟨wk,hwk⟩:∃ wk,w.alloc (.cells (ReC (mkR r)) 56)=wk:=⟨_,rfl⟩;obtain ⟨G,hG⟩:∃ G,w.heap.size=G:=⟨_,rfl⟩;rw [hwk] at HX HBK HS;rw [hG] at HX;have c0:=HX.out.sk;go_enter Tryz.func69,Tryz.ntmps69;go_wp2_with fail;clear hwk;refine (isSkuOrEmpty_any r.s _ hs).mono ?_;rintro e w2 ⟨rfl,b2⟩;have HB2:=wTr HBK b2;have HX2:=hide (HX.out.below b2);have HS2:=hide (HS.out.below b2);clear b2 c0
 cases hg:skuR r.s with
 | false =>
  have HE:Hid (RecE r 5):=.inl ⟨hg,rfl⟩;clear hg;go_wp2_with fail;go_ret;exact ⟨_,rfl,HE.out,HB2.out⟩
 | true =>
  have HG:=hide hg;clear hg;have l2:=run_ldP HX2.out.past;go_wp2_with fail;refine (isNormP_any r.p _ HS2.out).mono ?_;rintro e w3 ⟨b,rfl,hb,b3⟩;have HB3:=wTr HB2 b3;have HX3:=hide (HX2.out.below b3);have HS3:=hide (HS2.out.below b3);clear b3 l2
  cases b with
  | false =>
   have HE:Hid (RecE r 1):=.inr (.inl ⟨HG.out,fun h=>(by have:=hb.out.2 h.1;cases this),rfl⟩);clear hb;go_wp2_with fail;go_ret;exact ⟨_,rfl,HE.out,HB3.out⟩
  | true =>
   have HF:Hid (InForm r.p.P):=hb.out.1 rfl;clear hb;have l3:=run_ldP HX3.out.past;go_wp2_with fail;refine (pastEmpty_any r.p _ HS3.out).mono ?_;rintro e w4 ⟨b,rfl,hb,b4⟩;have HB4:=wTr HB3 b4;clear b4 l3
   cases b with
   | true =>
    have HE:Hid (RecE r 1):=.inr (.inl ⟨HG.out,fun h=>h.2 (hb.1 rfl),rfl⟩);clear hb;go_wp2_with fail;go_ret;exact ⟨_,rfl,HE.out,HB4.out⟩
   | false =>
    have HE:Hid (RecE r 0):=.inr (.inr ⟨HG.out,⟨HF.out,fun h=>(by have:=hb.2 h;cases this)⟩,rfl⟩);clear hb;go_wp2_with fail;go_ret;exact ⟨_,rfl,HE.out,HB4.out⟩
def cmpS (a b:ByteArray):Int:=Lib.compareBytes a.data.toList b.data.toList
def CmpR (a b:Rc) (z:Int):Prop:=(cmpS a.s b.s≠0/\z=cmpS a.s b.s)∨(cmpS a.s b.s=0/\CmpOf a.p.P b.p.P z)
theorem CmpR.unique {a b:Rc} {z z':Int} (h:CmpR a b z) (h':CmpR a b z'):z=z':=by
 rcases h with ⟨h1,h2⟩ | ⟨h1,h2⟩ <;> rcases h' with ⟨g1,g2⟩ | ⟨g1,g2⟩
 ·rw [h2,g2]
 ·exact absurd g1 h1
 ·exact absurd h1 g1
 ·exact h2.unique g2
theorem keepCompare_any (a b:Rc) (w:World) (hA:RcOk w a) (hB:RcOk w b):Calls Tryz.prog 33 #[ReV (mkR a),ReV (mkR b)] w fun e w'=>GivesK w w' e (CmpR a b):=by
 have b1:=below_new w (.cells (ReC (mkR a)) 56);have b2:=below_new (w.alloc (.cells (ReC (mkR a)) 56)) (.cells (ReC (mkR b)) 56);have X2:=ReBox_new (w.alloc (.cells (ReC (mkR a)) 56)) (mkR b);rw [World.size_alloc] at X2;have HXA:=hide ((ReBox_new w (mkR a)).below b2);have HXB:=hide X2;have HBK:=hide (b1.trans (b2.mono b1.size));have HSA:=hide (hA.1.below HBK.out);have HSB:=hide (hB.1.below HBK.out);clear b1 b2 X2 hA hB;obtain ⟨wk,hwk⟩:∃ wk,(w.alloc (.cells (ReC (mkR a)) 56)).alloc (.cells (ReC (mkR b)) 56)=wk:=⟨_,rfl⟩;obtain ⟨G,hG⟩:∃ G,w.heap.size=G:=⟨_,rfl⟩;rw [hwk] at HXA HXB HBK HSA HSB;rw [hG] at HXA HXB;have c1:=HXA.out.sk;have c2:=HXB.out.sk;have l1:=run_ldP HXA.out.past;have l2:=run_ldP HXB.out.past;go_enter Tryz.func33,Tryz.ntmps33;go_wp2_with fail;clear hwk;refine (Tryz.strings_Compare a.s b.s _).mono ?_;rintro e w' ⟨rfl,rfl⟩
 by_cases h0:cmpS a.s b.s=0
 ·have HZ:=hide h0;rw [show Lib.compareBytes a.s.data.toList b.s.data.toList=0 from h0];clear h0;go_wp2_with fail;refine (pastCompare_any a.p b.p _ HSA.out HSB.out).mono ?_;rintro e w2 ⟨k,rfl,hk,b2⟩;have HF:Hid (CmpR a b k/\Below w.heap.size w w2):=⟨.inr ⟨HZ.out,hk⟩,HBK.out.trans (b2.mono HBK.out.size)⟩;clear hk b2 l1 l2;go_wp2_with fail;go_ret;exact ⟨_,rfl,HF.out.1,HF.out.2⟩
 ·obtain ⟨z,hz⟩:∃ z,cmpS a.s b.s=z:=⟨_,rfl⟩;have HF:Hid (CmpR a b z):=.inl ⟨h0,hz.symm⟩;rw [show Lib.compareBytes a.s.data.toList b.s.data.toList=z from hz]
  have hne:(z != 0)=true:=by rw [hz] at h0;simpa using h0
  clear h0 hz;go_wp2_with fail;go_ret;exact ⟨_,rfl,HF.out,HBK.out⟩
end Go.Proofs.YtaphmhbmhcahaabGreat
