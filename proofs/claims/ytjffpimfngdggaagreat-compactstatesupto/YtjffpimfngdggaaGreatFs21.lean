/- BCv LSame BSm TUa BMp BMr BPr BPg TShg -/
import Derived.Test.YtjffpimfngdggaaGreatTk
import Derived.Test.YtjffpimfngdggaaGreatFs16
import Derived.Test.YtjffpimfngdggaaGreatFs19
import Derived.Test.YtjffpimfngdggaaGreatFs20
import Derived.Deep.CutRange
import Derived.Test.YtjffpimfngdggaaGreatFs15
import Derived.Laws.StructEq
import Derived.Test.YtjffpimfngdggaaGreatFs10
import Derived.Sort.KeysCollected
import Derived.Maps.Ext
import Derived.Maps.OwnOps
import Derived.StringKeys
import Derived.Below
import Derived.Maps.AppendAt
import Derived.Laws.OwnMore
import Derived.Test.YtjffpimfngdggaaGreatFs06
import Derived.Shelf.Spec.SlicesGrow
import Derived.Test.YtjffpimfngdggaaGreatProg
set_option maxRecDepth 100000
set_option maxHeartbeats 1600000
namespace Go.Proofs.YtjffpimfngdggaaGreat
open Go.RowKit
attribute [local go_sem ↓] zr zq qd zZ qh qg K.zy K.zx
attribute [local go_sem] zi zk zI zU K.zu K.zH qi
variable {w w' w2 W W' : World} {g : Nat}
def covB (r:Rc) (e:K.En):Bool:=(decide (r.s.size=0) || (r.s.toList == e.sku.toList)) && inB r.p.P e
theorem zc8 {r:Rc} {e:K.En} {b:Bool} (h:(decide (r.s.size=0) || (r.s.toList == e.sku.toList))=true) (hb:BIf b (dotIn r.p.P ⟨e.rep,e.num⟩)):covB r e=b:=by
 unfold covB;rw [h,Bool.true_and];have h1:=qs r.p.P e;have h2:=hb.out
 cases hx:inB r.p.P e <;> cases b
 ·rfl
 ·rw [hx] at h1;exact absurd (h1.2 (h2.1 rfl)) (by simp)
 ·rw [hx] at h1;have:=h2.2 (h1.1 rfl);cases this
 ·rfl
theorem zgS {r:Rc} {e:K.En} (h0:¬ r.s.size=0) (h:(r.s.toList == e.sku.toList)=false):covB r e=false:=by
 unfold covB;rw [h,decide_eq_false h0];rfl
theorem vy (L:List Rc) (k:Nat) (h:k < L.length):L.take (k+1)=L.take k++[L.getD k rc0]:=by
 rw [List.take_succ_eq_append_getElem h];simp [List.getD,h]
theorem kO (r:Rc) (e:K.En) (w:World) (hR:RcOk w r):Calls Tryz.prog 132 #[ReV (mkR r),K.EV e] w fun x w'=>x = .returned (.bool (covB r e))/\Below w.heap.size w w':=by
 have b1:=ze w (.cells (ReC (mkR r)) 78);have b2:=ze (w.alloc (.cells (ReC (mkR r)) 78)) (.cells (K.EC e) 50);have X2:=K.qe (w.alloc (.cells (ReC (mkR r)) 78)) 50 e;rw [World.size_alloc] at X2;have HXA:=hide ((qj w (mkR r)).below b2);have HXB:=hide X2;have HBK:=hide (b1.trans (b2.mono b1.size));have HS:=hide (hR.1.below HBK.out);clear b1 b2 X2 hR;obtain ⟨wk,hwk⟩:∃ wk,(w.alloc (.cells (ReC (mkR r)) 78)).alloc (.cells (K.EC e) 50)=wk:=⟨_,rfl⟩;obtain ⟨G,hG⟩:∃ G,w.heap.size=G:=⟨_,rfl⟩;rw [hwk] at HXA HXB HBK HS;rw [hG] at HXA HXB;have c0:=HXA.out.sk;have c2:wk.cell? ⟨G+1,2,none⟩=some (.string e.sku):=HXB.out.at.c2;have l1:=zj HXA.out.past;have l2:=qm (zau HXB.out);have key:Hid (Calls Tryz.prog 79 #[PV r.p,RV ⟨e.rep,e.num⟩] wk fun x w'=>GivB wk w' x (dotIn r.p.P ⟨e.rep,e.num⟩)):=vH r.p ⟨e.rep,e.num⟩ wk HS.out
 by_cases h0:r.s.size=0
 ·have e0:=K.jt r.s h0
  have HC:Hid ((decide (r.s.size=0) || (r.s.toList == e.sku.toList))=true):=by show _=_;rw [decide_eq_true h0,Bool.true_or]
  clear h0;go_enter Tryz.func132,Tryz.ntmps132;go_wp2_with fail;clear hwk;refine key.out.mono ?_;rintro x w3 ⟨b,rfl,hb,b3⟩;have HE:Hid (b=covB r e/\Below w.heap.size w w3):=⟨(zc8 HC.out hb).symm,HBK.out.trans (b3.mono HBK.out.size)⟩;clear b3 hb l1 l2 c0 c2;go_wp2_with fail;go_ret;exact ⟨by rw [HE.out.1];rfl,HE.out.2⟩
 ·have e0:=K.j9 r.s h0
  cases hs:(r.s.toList == e.sku.toList) with
  | true =>
   have HC:Hid ((decide (r.s.size=0) || (r.s.toList == e.sku.toList))=true):=by show _=_;rw [hs,Bool.or_true]
   clear h0;go_enter Tryz.func132,Tryz.ntmps132;go_wp2_with fail;clear hwk;refine key.out.mono ?_;rintro x w3 ⟨b,rfl,hb,b3⟩;have HE:Hid (b=covB r e/\Below w.heap.size w w3):=⟨(zc8 HC.out hb).symm,HBK.out.trans (b3.mono HBK.out.size)⟩;clear b3 hb l1 l2 c0 c2;go_wp2_with fail;go_ret;exact ⟨by rw [HE.out.1];rfl,HE.out.2⟩
  | false =>
   have HE:Hid (false=covB r e):=(zgS h0 hs).symm;clear h0 key;go_enter Tryz.func132,Tryz.ntmps132;go_wp2_with fail;go_ret;exact ⟨by rw [<- HE.out];rfl,HBK.out⟩
theorem zbZ (ao:Option Addr) (n cap:Nat) (L:List Rc) (e:K.En) (w:World) (hS:RcS w ao n cap L) :
  Calls Tryz.prog 80 #[.slice ao n cap,K.EV e] w fun x w'=>x = .returned (.int .i64 (L.countP (fun r=>covB r e)))/\Below w.heap.size w w':=by
 have b1:=ze w (.cells (K.EC e) 50);have x1:=K.qe w 50 e;obtain ⟨w1,hw1⟩:∃ w1,w.alloc (.cells (K.EC e) 50)=w1:=⟨_,rfl⟩;obtain ⟨g1,hg1⟩:∃ g1,w.heap.size=g1:=⟨_,rfl⟩;rw [hw1] at b1 x1;rw [hg1] at x1;have HB:=hide b1;have HX:=hide x1;have HS:=hide (hS.below b1);have hn:=hS.big;have HL:Hid (L.length=n):=hS.len;clear b1 x1 hS;go_enter Tryz.func80,Tryz.ntmps80;go_wp2_with fail;clear hw1 hg1;go_loopw [5,6] (fun c i wr=>∃ (k m:Nat),k <= n/\m <= k/\c = .int .i64 (m:Int)/\i = .int .i64 (k:Int)/\Hid ((L.take k).countP (fun r=>covB r e)=m)/\Hid (Below w1.heap.size w1 wr)) (fun _ i _=>n - (intOf i).toNat)
 case atStart=>exact ⟨0,0,Nat.zero_le _,Nat.le_refl _,rfl,rfl,rfl,Below.refl _ _⟩
 case round =>
  obtain ⟨k,m,hk,hm,rfl,rfl,HM,HBr⟩:=hrel
  rename World=>wr
  by_cases hlt:k < n
  ·have hlti:(k:Int) < (n:Int):=by omega
   obtain ⟨ad,hao,A0⟩:=(HS.out.below HBr.out).at k hlt;subst hao;have HO:=hide ((HS.out.below HBr.out).okAt k hlt);have HT:=hide (vy L k (by rw [HL.out];exact hlt));obtain ⟨r,Hr⟩:∃ r,Hid (L.getD k rc0=r):=⟨_,rfl⟩;rw [Hr.out] at HO HT A0;have HA0:=hide A0
   have HSt:Hid (∀ W,Below wr.heap.size wr W -> (ldRe (.pointer (some (ad.add (k * 3))))).run Tryz.prog W = .ok (ReV (mkR r)) W/\(K.ld28 (.pointer (some ⟨g1,0,none⟩))).run Tryz.prog W = .ok (K.EV e) W):=fun W hW =>
    ⟨zz (HA0.out.on hW),K.zN ((HX.out.below HBr.out).below hW).at⟩
   have Hlt:=hide hlt;clear A0 hlt hk;go_upto_region 5 with fail;refine wp_region_held_drew (S:=fun W=>(ldRe (.pointer (some (ad.add (k * 3))))).run Tryz.prog W = .ok (ReV (mkR r)) W/\(K.ld28 (.pointer (some ⟨g1,0,none⟩))).run Tryz.prog W = .ok (K.EV e) W) (by kernel_rfl) (HSt.out _ (zf wr)) (fun hHeld=>?_);refine wU 0 ?_;refine wU 1 ?_;refine wU 2 ?_;refine wU 3 ?_;refine wU 4 ?_;refine wpAnyH_ready (rs:=[5]) (by kernel_rfl) (by simp) (.cons rfl (fun K hK=>?_) .nil);go_simp;go_wp2_with fail;refine (kO r e _ (HO.out.below (zf wr))).mono ?_;rintro x w6 ⟨rfl,b6⟩;have hB6:Below wr.heap.size wr w6:=(zf wr).trans b6;have HB3:=wTr HBr hB6;refine hK.out _ _ (HSt.out _ hB6) (fun hHeld=>?_);clear hK K b6 hB6;refine wpAnyH_done (by kernel_rfl) ?_ _;clear hHeld
   cases hc:covB r e with
   | true =>
    have HN:Hid ((L.take (k+1)).countP (fun r=>covB r e)=m+1):=by show _=_;rw [HT.out,List.countP_append,HM.out];simp [hc]
    clear hc;go_wp2_with fail;go_roundw
    case rel=>exact ⟨k+1,m+1,Hlt.out,by omega,by go_num,by go_num,HN,HB3⟩
    case measure=>simp [intOf];have:=Hlt.out;omega
   | false =>
    have HN:Hid ((L.take (k+1)).countP (fun r=>covB r e)=m):=by show _=_;rw [HT.out,List.countP_append,HM.out];simp [hc]
    clear hc;go_wp2_with fail;go_roundw
    case rel=>exact ⟨k+1,m,Hlt.out,by omega,rfl,by go_num,HN,HB3⟩
    case measure=>simp [intOf];have:=Hlt.out;omega
  ·have hlti:¬ (k:Int) < (n:Int):=by omega
   have HE:Hid ((m:Int)=(L.countP (fun r=>covB r e):Nat)):=by
    show _=_
    rw [<- HM.out,List.take_of_length_le (by have:=HL.out;omega)]
   have HBE:=wTr HB HBr.out;clear hlt;go_wp2_with fail;go_ret;exact ⟨by rw [<- HE.out];rfl,HBE.out⟩
end Go.Proofs.YtjffpimfngdggaaGreat
namespace Go.Proofs.YtjffpimfngdggaaGreat.K
open Go.RowKit
attribute [local go_sem ↓] zy zx
attribute [local go_sem] zJ zu
def eqE (x y:En):Bool:=x.rep == y.rep && x.num == y.num && x.sku.toList == y.sku.toList && x.qty == y.qty
theorem zf8 (a b c d:Int) (w:World):(Op.equalIn 9999 48 (.agg #[.int .i64 a,.int .i64 b]) (.agg #[.int .i64 c,.int .i64 d])).run Tryz.prog w = .ok (a == c && b == d) w:=by
 have u3:=Tryz.underlying3;have a3:=Tryz.isAgg3;have z3:=Tryz.sizeOf3
 have hS:Tryz.prog.underlying 48=some (.struct (Tryz.prog.fieldsOf 48)):=by kernel_rfl
 have hp:Tryz.prog.stoodInHeld 48=false:=by kernel_rfl
 rw [show (9999:Nat)=9998+1 from rfl,run_equalIn_struct w 9998 48 _ _ hS hp];simp only [Program.fieldsOf,Tryz.underlying48];go_simp;by_cases h1:a=c <;> by_cases h2:b=d <;> simp [h1,h2]
theorem qz (x y:En) (w:World):(Op.equalIn 10000 50 (.agg (EC x)) (.agg (EC y))).run Tryz.prog w = .ok (eqE x y) w:=by
 have u3:=Tryz.underlying3;have a3:=Tryz.isAgg3;have z3:=Tryz.sizeOf3;have u9:=Tryz.underlying9;have a9:=Tryz.isAgg9;have z9:=Tryz.sizeOf9;have a26:=Tryz.isAgg48;have z26:=Tryz.sizeOf48
 have hS:Tryz.prog.underlying 50=some (.struct (Tryz.prog.fieldsOf 50)):=by kernel_rfl
 have hp:Tryz.prog.stoodInHeld 50=false:=by kernel_rfl
 obtain ⟨r,m,s,q⟩:=x;obtain ⟨r',m',s',q'⟩:=y;have h26:=zf8 r m r' m'
 show (Op.equalIn 10000 50 (.agg #[.int .i64 r,.int .i64 m,.string s,.int .i64 q]) (.agg #[.int .i64 r',.int .i64 m',.string s',.int .i64 q'])).run Tryz.prog w = .ok (r == r' && m == m' && s.toList == s'.toList && q == q') w
 rw [show (10000:Nat)=9999+1 from rfl,run_equalIn_struct w 9999 50 _ _ hS hp];simp only [Program.fieldsOf,Tryz.underlying50];have h9:∀ w,(Op.equalIn 9999 9 (.string s) (.string s')).run Tryz.prog w = .ok (s.toList == s'.toList) w:=fun w=>run_equalIn_string w 9998 9 s s' Tryz.underlying9;have h3:∀ w,(Op.equalIn 9999 3 (.int .i64 q) (.int .i64 q')).run Tryz.prog w = .ok (q == q') w:=fun w=>run_equalIn_int w 9998 3 .i64 .i64 q q' Tryz.underlying3;obtain ⟨D,hD⟩:∃ D,9999=D:=⟨9999,rfl⟩;rw [hD] at h26 h9 h3 ⊢;go_simp;by_cases e1:r=r'
 ·by_cases e2:m=m'
  ·by_cases e3:s.toList=s'.toList
   ·by_cases e4:q=q'
    ·simp [e1,e2,e3,e4]
    ·simp [e1,e2,e3,e4]
   ·simp [e1,e2,e3]
  ·simp [e1,e2]
 ·simp [e1]
theorem vh (x:En):eqE x x=true:=by simp [eqE]
attribute [local go_sem ↓] qz
end Go.Proofs.YtjffpimfngdggaaGreat.K
namespace Go.Proofs.YtjffpimfngdggaaGreat
section
open Go.RowKit
attribute [local go_sem ↓] K.zy K.zx K.qz zr zq qd zZ
attribute [local go_sem] K.zJ K.zu zi zk
theorem zak {s u:ByteArray} (h:s.toList=u.toList):s=u:=by
 rw [ByteArray.toList_eq,ByteArray.toList_eq] at h;exact ByteArray.ext (Array.ext' h)
theorem kx (x y:K.En):K.eqE x y=true↔x=y:=by
 obtain ⟨a,b,s,q⟩:=x;obtain ⟨a',b',s',q'⟩:=y;simp only [K.eqE,Bool.and_eq_true,beq_iff_eq,K.En.mk.injEq];constructor
 ·rintro ⟨⟨⟨h1,h2⟩,h3⟩,h4⟩;exact ⟨h1,h2,zak h3,h4⟩
 ·rintro ⟨h1,h2,h3,h4⟩;exact ⟨⟨⟨h1,h2⟩,by rw [h3]⟩,h4⟩
theorem kA {n:Nat} {w W:World} (h:Below n w W):Below n w W.drew:=⟨h.os,h.tape,h.output,h.size,h.block⟩
theorem xW (ao bo:Option Addr) (n m ca cb:Nat) (L M:List K.En) (w:World) (hL:K.ESrc w ao n ca L) (hM:K.ESrc w bo m cb M):Calls Tryz.prog 28 #[.slice ao n ca,.slice bo m cb] w fun e w'=>GivesB w w' e (L=M):=by
 have HL:=hide hL;have HM:=hide hM;have hn:=hL.2.2.2.2;have hm:=hM.2.2.2.2;have HLl:Hid (L.length=n/\M.length=m):=⟨hL.1,hM.1⟩;clear hL hM;by_cases hnm:n=m
 ·subst hnm;go_enter Tryz.func28,Tryz.ntmps28;go_wp2_with fail;go_loopw [5] (fun i wr=>∃ k:Nat,k <= n/\i = .int .i64 k/\Hid (L.take k=M.take k/\Below w.heap.size w wr)) (fun i _=>n - (intOf i).toNat)
  case atStart=>exact ⟨0,Nat.zero_le _,rfl,rfl,Below.refl _ _⟩
  case round =>
   obtain ⟨k,hk,rfl,HK⟩:=hrel
   rename World=>wr
   by_cases hlt:k < n
   ·obtain ⟨ad,rfl,A0⟩:=(HL.out.below HK.out.2).at k hlt;obtain ⟨bd,rfl,B0⟩:=(HM.out.below HK.out.2).at k hlt;obtain ⟨x,Hx⟩:∃ x,Hid (L.getD k K.en0=x):=⟨_,rfl⟩;obtain ⟨y,Hy⟩:∃ y,Hid (M.getD k K.en0=y):=⟨_,rfl⟩;rw [Hx.out] at A0;rw [Hy.out] at B0;have HA:=hide A0;have HB:=hide B0;clear A0 B0;have HTk:Hid (L.take (k+1)=L.take k++[x]/\M.take (k+1)=M.take k++[y]):=⟨by rw [K.jr L k (by have:=HLl.out;omega),Hx.out],by rw [K.jr M k (by have:=HLl.out;omega),Hy.out]⟩;have Hlt:=hide hlt;go_upto_region 6 with fail;refine wp_region_held_drew (S:=fun v=>(K.ld28 (.pointer (some (ad.add (k * 4))))).run Tryz.prog v = .ok (K.EV x) v/\(K.ld28 (.pointer (some (bd.add (k * 4))))).run Tryz.prog v = .ok (K.EV y) v) (by kernel_rfl) (⟨K.zN (HA.out.on (zf wr)),K.zN (HB.out.on (zf wr))⟩) (fun hHeld=>?_)
    refine wU 0 ?_;refine wU 1 ?_;refine wU 2 ?_;refine wU 3 ?_;refine wU 4 ?_;refine wU 5 ?_;refine wU 6 ?_;refine wU 7 ?_
    cases hxy:K.eqE x y with
    | false =>
     refine wU 8 ?_;refine wpAnyH_done (by kernel_rfl) ?_ _;clear hHeld
     have HF:Hid (GivesB w wr.drew (.returned (.bool false)) (L=M)):=by
      refine ⟨false,rfl,⟨(fun h=>by cases h),fun h=>?_⟩,kA HK.out.2⟩
      have:x=y:=by rw [<- Hx.out,<- Hy.out,h]
      rw [(kx x y).2 this] at hxy
      cases hxy
     clear hxy;go_wp2_with fail;go_ret;exact HF.out
    | true =>
     refine wU 8 ?_;refine wpAnyH_done (by kernel_rfl) ?_ _;clear hHeld
     have HE:Hid (L.take (k+1)=M.take (k+1)):=by show _=_;rw [HTk.out.1,HTk.out.2,HK.out.1,(kx x y).1 hxy]
     clear hxy;go_wp2_with fail;go_roundw
     case rel=>exact ⟨k+1,by omega,by simp,HE.out,kA HK.out.2⟩
     case measure=>simp [intOf];omega
   ·obtain rfl:k=n:=by omega
    have HF:Hid (GivesB w wr (.returned (.bool true)) (L=M)):=by
     refine ⟨true,rfl,⟨fun _=>?_,fun _=>rfl⟩,HK.out.2⟩;have h:=HK.out.1;rw [List.take_of_length_le (by have:=HLl.out;omega),List.take_of_length_le (by have:=HLl.out;omega)] at h;exact h
    go_wp2_with fail;go_ret;exact HF.out
 ·have hne:((n:Int) != (m:Int))=true:=by simp;omega
  have HF:Hid (GivesB w w (.returned (.bool false)) (L=M)):=⟨false,rfl,⟨(fun h=>by cases h),fun h=>by rw [h] at HLl;have:=HLl.out;omega⟩,Below.refl _ _⟩;go_enter Tryz.func28,Tryz.ntmps28;go_wp2_with fail;go_ret;exact HF.out
abbrev Rp:=ByteArray × Pst
def plR (L:List Rc):List Rp:=L.map fun r=>(r.s,r.p.P)
theorem jO (L:List Rc):(plR L).length=L.length:=by simp [plR]
theorem zgg (L:List Rc) (r:Rc):plR (L++[r])=plR L++[(r.s,r.p.P)]:=by simp [plR]
theorem kS (L:List Rc) (k:Nat) (h:k < L.length):plR (L.take (k+1))=plR (L.take k)++[((L.getD k rc0).s,(L.getD k rc0).p.P)]:=by
 rw [vy L k h,zgg]
theorem ReAt.flat {w:World} {b o:Nat} {r:Rc} (A:ReAt w ⟨b,o,none⟩ (mkR r)):w.cell? ⟨b,o,none⟩=some (.string r.s)/\PAt w ⟨b,o+1,none⟩ r.p:=by
 obtain ⟨h0,h1,h2⟩:=A;rw [Addr.add_lit] at h1 h2;refine ⟨h0,h1,?_⟩;rw [Addr.add_lit];exact h2
theorem RcS.spot {w:World} {ad:Addr} {n c:Nat} {L:List Rc} (h:RcS w (some ad) n c L) (hn:0 < n):∃ b o,ad=⟨b,o,none⟩:=by
 obtain ⟨ad0,e0,A00⟩:=h.at 0 hn;obtain rfl:=Option.some.inj e0;have hsp:=World.cell?_spot A00.c0;rw [Nat.zero_mul,add_zero] at hsp;obtain ⟨b,o,sp⟩:=ad;have hsp:sp=none:=hsp;subst hsp;exact ⟨b,o,rfl⟩
theorem xV (ao bo:Option Addr) (n m ca cb:Nat) (L M:List Rc) (w:World) (hL:RcS w ao n ca L) (hM:RcS w bo m cb M):Calls Tryz.prog 36 #[.slice ao n ca,.slice bo m cb] w fun e w'=>GivesB w w' e (plR L=plR M):=by
 have HL:=hide hL;have HM:=hide hM;have hn:=hL.big;have hm:=hM.big;have HLl:Hid (L.length=n/\M.length=m):=⟨hL.len,hM.len⟩;clear hL hM;by_cases hnm:n=m
 ·subst hnm;go_enter Tryz.func36,Tryz.ntmps36;go_wp2_with fail;go_loopw [5] (fun i wr=>∃ k:Nat,k <= n/\i = .int .i64 k/\Hid (plR (L.take k)=plR (M.take k)/\Below w.heap.size w wr)) (fun i _=>n - (intOf i).toNat)
  case atStart=>exact ⟨0,Nat.zero_le _,rfl,rfl,Below.refl _ _⟩
  case round =>
   obtain ⟨k,hk,rfl,HK⟩:=hrel
   rename World=>wr
   by_cases hlt:k < n
   ·obtain ⟨ad,rfl,A0⟩:=(HL.out.below HK.out.2).at k hlt;obtain ⟨bd,rfl,B0⟩:=(HM.out.below HK.out.2).at k hlt;obtain ⟨b1,o1,rfl⟩:=HL.out.spot (by omega);obtain ⟨b2,o2,rfl⟩:=HM.out.spot (by omega);have HO1:=(HL.out.below HK.out.2).okAt k hlt;have HO2:=(HM.out.below HK.out.2).okAt k hlt;have ht1:=kS L k (by have:=HLl.out;omega);have ht2:=kS M k (by have:=HLl.out;omega);obtain ⟨x,Hx⟩:∃ x,Hid (L.getD k rc0=x):=⟨_,rfl⟩;obtain ⟨y,Hy⟩:∃ y,Hid (M.getD k rc0=y):=⟨_,rfl⟩;rw [Hx.out] at A0 HO1 ht1;rw [Hy.out] at B0 HO2 ht2;rw [Addr.add_lit] at A0 B0;have HA:=hide A0;have HB:=hide B0;have HTk:Hid (plR (L.take (k+1))=plR (L.take k)++[(x.s,x.p.P)]/\plR (M.take (k+1))=plR (M.take k)++[(y.s,y.p.P)]):=⟨ht1,ht2⟩;have HO:Hid (PSrc wr x.p/\PSrc wr y.p):=⟨HO1.1,HO2.1⟩;clear A0 B0 HO1 HO2 ht1 ht2
    have HNo:Hid ((x.s,x.p.P)≠(y.s,y.p.P) -> ¬ plR L=plR M):=fun hne h=>by
     have h1:=congrArg (fun z:List Rp=>z.take (k+1)) h;simp only [plR,<- List.map_take] at h1;have h2:=HTk.out;unfold plR at h2;rw [h2.1,h2.2] at h1;have h3:=HK.out.1;unfold plR at h3;rw [h3] at h1;have:=List.append_cancel_left h1;exact hne (List.cons.inj this).1
    have Hlt:=hide hlt;go_upto_region 6 with fail;refine wp_region_held_drew (S:=fun v=>(v.cell? ⟨b1,o1+k * 3,none⟩=some (.string x.s)/\v.cell? ⟨b2,o2+k * 3,none⟩=some (.string y.s))/\(ldP (.pointer (some ⟨b1,o1+k * 3+1,none⟩))).run Tryz.prog v = .ok (PV x.p) v/\(ldP (.pointer (some ⟨b2,o2+k * 3+1,none⟩))).run Tryz.prog v = .ok (PV y.p) v) (by kernel_rfl) (⟨⟨(HA.out.on (zf wr)).flat.1,(HB.out.on (zf wr)).flat.1⟩,zj (HA.out.on (zf wr)).flat.2,zj (HB.out.on (zf wr)).flat.2⟩) (fun hHeld=>?_);refine wU 0 ?_;refine wU 1 ?_;refine wU 2 ?_;refine wU 3 ?_;refine wU 4 ?_;refine wU 5 ?_;refine wU 6 ?_;refine wU 7 ?_;refine wU 8 ?_;refine wU 9 ?_;by_cases hs:x.s=y.s
    ·have hsb:(x.s.toList == y.s.toList)=true:=by rw [hs];simp
     have HS:=hide hs;clear hs;refine wU 10 ?_;refine wU 11 ?_;refine wU 12 ?_;refine wU 13 ?_;refine wU 14 ?_;refine wU 15 ?_;refine wU 16 ?_;refine wU 17 ?_;refine wU 18 ?_;refine wU 19 ?_;refine wU 20 ?_;refine wU 21 ?_;refine wpAnyH_ready (rs:=[22]) (by kernel_rfl) (by simp) (.cons rfl (fun K hK=>?_) .nil);go_simp;go_wp2_with fail;refine (xe x.p y.p _ (HO.out.1.below (zf wr)) (HO.out.2.below (zf wr))).mono ?_;rintro e w7 ⟨z,rfl,hz,b7⟩;have hB7:Below wr.heap.size wr w7:=(zf wr).trans b7;have HB7:=hide (HK.out.2.trans (hB7.mono HK.out.2.size));refine hK.out _ _ (⟨⟨(HA.out.on (hB7)).flat.1,(HB.out.on (hB7)).flat.1⟩,zj (HA.out.on (hB7)).flat.2,zj (HB.out.on (hB7)).flat.2⟩) (fun hHeld=>?_);clear hK K b7 hB7
     cases z with
     | false =>
      have HN:=hide (HNo.out (fun h=>by have:=hz.2 (Prod.mk.inj h).2;cases this));clear hz;refine wU 23 ?_;refine wU 24 ?_;refine wpAnyH_done (by kernel_rfl) ?_ _;clear hHeld;go_wp2_with fail;go_ret;exact ⟨false,rfl,⟨(fun h=>by cases h),fun h=>absurd h HN.out⟩,HB7.out⟩
     | true =>
      have HE:Hid (plR (L.take (k+1))=plR (M.take (k+1))):=by show _=_;rw [HTk.out.1,HTk.out.2,HK.out.1,HS.out,hz.1 rfl]
      clear hz;refine wU 23 ?_;refine wU 24 ?_;refine wpAnyH_done (by kernel_rfl) ?_ _;clear hHeld;go_wp2_with fail;go_roundw
      case rel=>exact ⟨k+1,by omega,by simp,HE.out,HB7.out⟩
      case measure=>simp [intOf];omega
    ·have hsb:(x.s.toList == y.s.toList)=false:=by rw [beq_eq_false_iff_ne];exact fun h=>hs (zak h)
     have HN:=hide (HNo.out (fun h=>hs (Prod.mk.inj h).1));refine wU 10 ?_;refine wU 11 ?_;refine wV 12 ?_;refine wV 13 ?_;refine wV 14 ?_;refine wV 15 ?_;refine wV 16 ?_;refine wV 17 ?_;refine wV 18 ?_;refine wV 19 ?_;refine wV 20 ?_;refine wV 21 ?_;refine wV 22 ?_;refine wV 23 ?_;refine wU 24 ?_;refine wpAnyH_done (by kernel_rfl) ?_ _;clear hHeld;clear hs;go_wp2_with fail;go_ret;exact ⟨false,rfl,⟨(fun h=>by cases h),fun h=>absurd h HN.out⟩,kA HK.out.2⟩
   ·obtain rfl:k=n:=by omega
    have HF:Hid (GivesB w wr (.returned (.bool true)) (plR L=plR M)):=by
     refine ⟨true,rfl,⟨fun _=>?_,fun _=>rfl⟩,HK.out.2⟩;have h:=HK.out.1;rw [List.take_of_length_le (by have:=HLl.out;omega),List.take_of_length_le (by have:=HLl.out;omega)] at h;exact h
    go_wp2_with fail;go_ret;exact HF.out
 ·have hne:((n:Int) != (m:Int))=true:=by simp;omega
  have HF:Hid (GivesB w w (.returned (.bool false)) (plR L=plR M)):=⟨false,rfl,⟨(fun h=>by cases h),fun h=>by have h1:=congrArg List.length h;rw [jO,jO] at h1;have:=HLl.out;omega⟩,Below.refl _ _⟩;go_enter Tryz.func36,Tryz.ntmps36;go_wp2_with fail;go_ret;exact HF.out
end
section
open Go.RowKit
/-! ### any total order -/
section
variable {α : Type} {c : α -> α -> Int}
def Srt (c : α -> α -> Int) (L:List α):Prop:=L.Pairwise fun x y=>c x y < 0
theorem Tot.irr (h:Tot c) (x : α):¬ c x x < 0:=by have:=(h.eq x x).2 rfl;omega
theorem Tot.asym (h:Tot c) {x y : α} (h1:c x y < 0):¬ c y x < 0:=by have:=h.neg x y;omega
theorem Srt.uniq (h:Tot c):∀ {X Y:List α},Srt c X -> Srt c Y -> (∀ x,x∈X↔x∈Y) -> X=Y
 | [],[],_,_,_=>rfl
 | [],b :: _,_,_,e=>absurd ((e b).2 List.mem_cons_self) List.not_mem_nil
 | a :: _,[],_,_,e=>absurd ((e a).1 List.mem_cons_self) List.not_mem_nil
 | a :: X,b :: Y,h1,h2,e=>by
  obtain ⟨a1,a2⟩:=List.pairwise_cons.1 h1;obtain ⟨b1,b2⟩:=List.pairwise_cons.1 h2
  have hab:a=b:=by
   rcases List.mem_cons.1 ((e a).1 List.mem_cons_self) with q | q
   ·exact q
   ·rcases List.mem_cons.1 ((e b).2 List.mem_cons_self) with q' | q'
    ·exact q'.symm
    ·exact absurd (a1 b q') (h.asym (b1 a q))
  subst hab;rw [Srt.uniq h a2 b2 fun x=>?_];have hx:=e x;rw [List.mem_cons,List.mem_cons] at hx;constructor
  ·intro hm;rcases hx.1 (.inr hm) with rfl | q
   ·exact absurd (a1 _ hm) (h.irr _)
   ·exact q
  ·intro hm;rcases hx.2 (.inr hm) with rfl | q
   ·exact absurd (b1 _ hm) (h.irr _)
   ·exact q
structure Mg (c : α -> α -> Int) (X Y:List α) (D A B:List α):Prop where
 sd:Srt c D
 sa:Srt c A
 sb:Srt c B
 da:∀ d∈D,∀ x∈A,c d x < 0
 db:∀ d∈D,∀ x∈B,c d x < 0
 all:∀ x,(x∈D∨x∈A∨x∈B)↔(x∈X∨x∈Y)
theorem Mg.start {X Y:List α} (h1:Srt c X) (h2:Srt c Y):Mg c X Y [] X Y:=
 ⟨List.Pairwise.nil,h1,h2,fun d h=>(by cases h),fun d h=>(by cases h),fun x=>by simp⟩
theorem Mg.symm {X Y D A B:List α} (h:Mg c X Y D A B):Mg c X Y D B A:=
 ⟨h.sd,h.sb,h.sa,h.db,h.da,fun x=>by rw [<- h.all x];constructor <;> (rintro (q | q | q) <;> simp [q])⟩
theorem Mg.left {X Y D A B:List α} {x : α} (h:Mg c X Y D (x :: A) B) (hx:∀ y∈B,c x y < 0):Mg c X Y (D++[x]) A B:=by
 obtain ⟨a1,a2⟩:=List.pairwise_cons.1 h.sa;refine ⟨List.pairwise_append.2 ⟨h.sd,List.pairwise_singleton _ _,fun d hd y hy=>?_⟩,a2,h.sb,fun d hd y hy=>?_,fun d hd y hy=>?_,fun y=>?_⟩
 ·obtain rfl:=List.mem_singleton.1 hy;exact h.da d hd _ List.mem_cons_self
 ·rcases List.mem_append.1 hd with q | q
  ·exact h.da d q y (List.mem_cons_of_mem _ hy)
  ·obtain rfl:=List.mem_singleton.1 q;exact a1 y hy
 ·rcases List.mem_append.1 hd with q | q
  ·exact h.db d q y hy
  ·obtain rfl:=List.mem_singleton.1 q;exact hx y hy
 ·rw [<- h.all y];simp only [List.mem_append,List.mem_cons];constructor
  ·rintro ((q | q) | q | q)
   ·exact .inl q
   ·exact .inr (.inl (.inl (by simpa using q)))
   ·exact .inr (.inl (.inr q))
   ·exact .inr (.inr q)
  ·rintro (q | (q | q) | q)
   ·exact .inl (.inl q)
   ·exact .inl (.inr (by simp [q]))
   ·exact .inr (.inl q)
   ·exact .inr (.inr q)
theorem Mg.drop {X Y D A B:List α} {x : α} (h:Mg c X Y D (x :: A) B) (hx:x∈B):Mg c X Y D A B:=
 ⟨h.sd,(List.pairwise_cons.1 h.sa).2,h.sb,fun d hd y hy=>h.da d hd y (List.mem_cons_of_mem _ hy),h.db,fun y=>by
  rw [<- h.all y];constructor
  ·rintro (q | q | q)
   ·exact .inl q
   ·exact .inr (.inl (List.mem_cons_of_mem _ q))
   ·exact .inr (.inr q)
  ·rintro (q | q | q)
   ·exact .inl q
   ·rcases List.mem_cons.1 q with rfl | q
    ·exact .inr (.inr hx)
    ·exact .inr (.inl q)
   ·exact .inr (.inr q)⟩
theorem zcB (h:Tot c) {x y : α} {B:List α} (hB:Srt c (y :: B)) (hxy:c x y < 0):∀ z∈y :: B,c x z < 0:=fun z hz=>by
 rcases List.mem_cons.1 hz with rfl | q
 ·exact hxy
 ·exact h.lt hxy (by have:=(List.pairwise_cons.1 hB).1 z q;omega)
def UnK (c : α -> α -> Int) (X Y Z:List α):Prop:=Srt c Z/\∀ x,x∈Z↔(x∈X∨x∈Y)
theorem Mg.doneL {X Y D A:List α} (h:Mg c X Y D A []):UnK c X Y (D++A):=
 ⟨List.pairwise_append.2 ⟨h.sd,h.sa,h.da⟩,fun x=>by rw [<- h.all x];simp⟩
theorem Mg.doneR {X Y D B:List α} (h:Mg c X Y D [] B):UnK c X Y (D++B):=h.symm.doneL
end
/-! ### records -/
def cmpU (x y:UInt8):Int:=if x < y then -1 else if y < x then 1 else 0
theorem zgW:Tot cmpU:=by
 refine ⟨fun x y=>?_,fun x y=>?_,fun x y=>?_,fun x y z=>?_⟩ <;> simp only [cmpU,UInt8.lt_iff_toNat_lt]
 ·split
  ·simp
  ·split <;> simp
 ·split <;> split <;> (first | omega | rfl)
 ·constructor
  ·intro h
   split at h
   ·omega
   ·split at h
    ·omega
    ·exact UInt8.toNat_inj.1 (by omega)
  ·rintro rfl;simp
 ·intro h1 h2
  split at h1 <;> split at h2 <;> split <;> (try split) <;> (try split at h1) <;> (try split at h2) <;> omega
theorem zhN:∀ a b:List UInt8,Lib.compareBytes a b=lex cmpU a b
 | [],[]=>rfl
 | [],_ :: _=>rfl
 | _ :: _,[]=>rfl
 | a :: x,b :: y=>by
  have ih:=zhN x y;simp only [Lib.compareBytes,lex,cmpU];by_cases h:a < b
  ·simp [h]
  ·by_cases h2:b < a
   ·simp [h,h2]
   ·simp [h,h2,ih]
theorem zgY (a b:ByteArray):cmpS a b=lex cmpU a.data.toList b.data.toList:=zhN _ _
theorem zfw {a b:ByteArray} (h:a.data.toList=b.data.toList):a=b:=by
 obtain ⟨⟨x⟩⟩:=a;obtain ⟨⟨y⟩⟩:=b;simp at h;rw [h]
theorem zgX:Tot cmpS:=by
 have t:=zgW.lex;refine ⟨fun x y=>?_,fun x y=>?_,fun x y=>?_,fun x y z=>?_⟩ <;> simp only [zgY]
 ·exact t.rng _ _
 ·exact t.neg _ _
 ·exact ⟨fun h=>zfw ((t.eq _ _).1 h),fun h=>by rw [h];exact (t.eq _ _).2 rfl⟩
 ·exact t.tr _ _ _
def rck (r:Rc):Rp:=(r.s,r.p.P)
theorem vI (L:List Rc):plR L=L.map rck:=rfl
def ck (x y:Rp):Int:=if cmpS x.1 y.1=0 then cmpP x.2 y.2 else cmpS x.1 y.1
theorem jv:Tot ck:=Tot.both (f:=Prod.fst) (g:=Prod.snd) zgX zgZ (fun _ _ h1 h2=>Prod.ext h1 h2)
theorem zcf {a b:Rc} {z:Int} (ha:InForm a.p.P) (hb:InForm b.p.P) (h:CmpR a b z):z=ck (rck a) (rck b):=by
 have e:CmpOf a.p.P b.p.P (cmpP a.p.P b.p.P):=⟨_,_,zP.2 ha,zP.2 hb,rfl⟩;unfold ck;rcases h with ⟨h1,h2⟩ | ⟨h1,h2⟩
 ·rw [if_neg (show ¬ cmpS (rck a).1 (rck b).1=0 from h1)];exact h2
 ·rw [if_pos (show cmpS (rck a).1 (rck b).1=0 from h1)];exact h2.unique e
theorem zip {a b:Rc} (ha:InForm a.p.P) (hb:InForm b.p.P):CmpR a b (ck (rck a) (rck b)):=by
 by_cases h:cmpS a.s b.s=0
 ·refine .inr ⟨h,?_⟩;unfold ck;rw [if_pos (show cmpS (rck a).1 (rck b).1=0 from h)];exact ⟨_,_,zP.2 ha,zP.2 hb,rfl⟩
 ·refine .inl ⟨h,?_⟩;unfold ck;rw [if_neg (show ¬ cmpS (rck a).1 (rck b).1=0 from h)];rfl
theorem jm {L:List Rc} {j:Nat} (h:j < L.length):L.getD j rc0∈L:=by
 rw [List.getD_eq_getElem?_getD,List.getElem?_eq_getElem h];exact List.getElem_mem h
theorem jN {L:List Rc} {j:Nat} (h:j < L.length):L.getD j rc0=L[j]:=by
 rw [List.getD_eq_getElem?_getD,List.getElem?_eq_getElem h];rfl
theorem xH {L:List Rc}:OkR L L.length↔(∀ r∈L,RecOk r)/\Srt ck (plR L):=by
 constructor
 ·intro h
  have hr:∀ r∈L,RecOk r:=fun r hr=>by
   obtain ⟨j,hj,rfl⟩:=List.getElem_of_mem hr;rw [<- jN hj];exact (h j hj).1
  refine ⟨hr,?_⟩
  have step:∀ k,∀ i,(hk:i+k+1 < L.length) -> ck (rck L[i]) (rck L[i+k+1]) < 0:=by
   intro k
   have one:∀ i,(hi:i+1 < L.length) -> ck (rck L[i]) (rck L[i+1]) < 0:=fun i hi=>by
    obtain ⟨z,hz,hlt⟩:=(h (i+1) hi).2 (by omega);rw [jN hi,show i+1 - 1=i from rfl,jN (by omega)] at hz;rw [<- zcf (hr _ (List.getElem_mem _)).2.1 (hr _ (List.getElem_mem _)).2.1 hz];exact hlt
   induction k with
   | zero=>intro i hk;exact one i (by omega)
   | succ k ih =>
    intro i hk;have h1:=ih i (by omega);have h2:=one (i+k+1) (by omega);exact jv.lt h1 (Int.le_of_lt h2)
  unfold Srt;rw [vI,List.pairwise_map,List.pairwise_iff_getElem];intro i j hi hj hij;obtain ⟨k,rfl⟩:∃ k,j=i+k+1:=⟨j - i - 1,by omega⟩;exact step k i hj
 ·rintro ⟨hr,hs⟩ j hj;unfold Srt at hs;rw [vI,List.pairwise_map,List.pairwise_iff_getElem] at hs;refine ⟨hr _ (jm hj),fun h0=>?_⟩;rw [jN hj,jN (by omega)];exact ⟨_,zip (hr _ (List.getElem_mem _)).2.1 (hr _ (List.getElem_mem _)).2.1,hs (j - 1) j (by omega) hj (by omega)⟩
def UnOf (L M F:List Rc):Prop:=UnK ck (plR L) (plR M) (plR F)/\∀ r∈F,RecOk r
theorem UnOf.ok {L M F:List Rc} (h:UnOf L M F):OkR F F.length:=xH.2 ⟨h.2,h.1.1⟩
theorem kQ {r r':Rc} (h:RecOk r) (e:rck r'=rck r):RecOk r':=by
 have e1:r'.s=r.s:=congrArg Prod.fst e;have e2:r'.p.P=r.p.P:=congrArg Prod.snd e;exact ⟨by rw [e1];exact h.1,by rw [e2];exact h.2⟩
end
section
open Go.RowKit Go.Maps Go.Sort
structure Hs where
 o:Option Addr
 n:Nat
 c:Nat
def hs0:Hs:=⟨none,0,0⟩
abbrev HsV (s:Hs):Value:=.slice s.o s.n s.c
def RSl (v:Value):Option (DataW Hs × List MemPlace):=
 match v with
 | .slice o n c=>some (.held ⟨o,n,c⟩,[])
 | _=>none
theorem zhP (s:Hs):RSl (HsV s)=some (.held s,[]):=rfl
theorem ziG {v:Value} {s:Hs} {ps:List MemPlace} (h:RSl v=some (.held s,ps)):v=HsV s:=by
 unfold RSl at h
 split at h
 ·simp at h;obtain ⟨rfl,_⟩:=h;rfl
 ·simp at h
def MpS (D:DataW Hs) (K:ByteArray -> Prop) (f:ByteArray -> Hs):Prop:=(∀ s:ByteArray,has D (.string s.data.toList)=true↔K s)/\∀ s:ByteArray,D.atKey (.string s.data.toList) (.held hs0) = .held (f s)
theorem zeN:MpS (.map []) (fun _=>False) (fun _=>hs0):=⟨fun s=>by simp [has],fun s=>rfl⟩
theorem zcA {a b:ByteArray} (h:(Lit.string a.data.toList) = .string b.data.toList):a=b:=by
 cases a;cases b;simp at h;simp [h]
theorem zgn {D:DataW Hs} {K:ByteArray -> Prop} {f:ByteArray -> Hs} (h:MpS D K f) (hm:IsMap D) (k:ByteArray) (x:Hs) (g:ByteArray -> Hs) (hg:g k=x) (hf:∀ s,s≠k -> g s=f s) :
  MpS (D.put (.string k.data.toList) (.held x)) (fun s=>s=k∨K s) g:=by
 refine ⟨fun s=>?_,fun s=>?_⟩
 ·by_cases hs:k=s
  ·subst hs;rw [has_put_same hm (k:=.string k.data.toList) (show WideAt.IsKeyLit (.string k.data.toList) from trivial)];exact ⟨fun _=>.inl rfl,fun _=>rfl⟩
  ·rw [has_put_other (fun he=>hs (zcA he).symm),h.1 s];exact ⟨fun h=>.inr h,fun h=>h.resolve_left (fun e=>hs e.symm)⟩
 ·by_cases hs:k=s
  ·subst hs;rw [atKey_put_same hm (k:=.string k.data.toList) (show WideAt.IsKeyLit (.string k.data.toList) from trivial),hg]
  ·rw [atKey_put_other (fun he=>hs (zcA he).symm),h.2 s,hf s (fun e=>hs e.symm)]
theorem keysS {P:Program} {k:TypeId} {R:Value -> Option (DataW Hs × List MemPlace)} {w:World} {b n:Nat} {D:DataW Hs} {S:ByteArray -> Prop} {f:ByteArray -> Hs} (hown:w.ownsMap P k R b n D) (K:Keyed P k) (hk:P.underlying k=some .string) (hm:MpS D S f)
  {ss:List (List UInt8)} (hp:ss.Perm (strKeys D)):ss.Nodup/\∀ x:List UInt8,x∈ss↔S ⟨x.toArray⟩:=by
 obtain ⟨es,hD,hpw,_⟩:=hown.entries K;obtain ⟨es',hD',hko⟩:=hown.keysOf
 obtain rfl:es=es':=by rw [hD] at hD';simpa using hD'
 subst hD
 have hks:∀ p∈es,∃ x,p.1 = .string x:=fun p hp=>by obtain ⟨v,hv⟩:=hko p hp;obtain ⟨x,_,hx,_⟩:=Maps.keyOf_str hk hv;exact ⟨x,hx⟩
 have hnd:(strKeys (.map es)).Nodup:=by
  show (es.map fun p=>strOf p.1).Nodup
  refine List.pairwise_map.2 (hpw.imp_of_mem fun {p q} hp' hq' hne e=>hne ?_);obtain ⟨a,ha⟩:=hks p hp';obtain ⟨b,hb⟩:=hks q hq';rw [ha,hb] at e ⊢;exact congrArg _ e
 have hmem:∀ x,x∈strKeys (.map es)↔has (.map es) (.string x)=true:=fun x=>by
  rw [has_eq,List.any_eq_true]
  show x∈es.map (fun p=>strOf p.1)↔_
  rw [List.mem_map];constructor
  ·rintro ⟨p,hp',rfl⟩;obtain ⟨a,ha⟩:=hks p hp';exact ⟨p,hp',by rw [ha];simp [Lit.sameKey,strOf]⟩
  ·rintro ⟨p,hp',hs⟩;obtain ⟨a,ha⟩:=hks p hp';rw [ha] at hs;exact ⟨p,hp',by rw [ha];simpa [Lit.sameKey,strOf] using hs⟩
 refine ⟨hp.nodup_iff.2 hnd,fun x=>?_⟩;rw [hp.mem_iff,hmem x];exact hm.1 ⟨x.toArray⟩
end
section
open Go.RowKit Go.Maps Go.Sort
variable {P : Program} {kt et : TypeId} {size B : Nat} {w W W2 : World} {b k : Nat} {K : ByteArray -> Prop} {f : ByteArray -> Hs} {X : ByteArray -> List Value}
structure MRo (P:Program) (kt et:TypeId) (size B:Nat) (w W:World) (b k:Nat) (K:ByteArray -> Prop) (f:ByteArray -> Hs) (X:ByteArray -> List Value):Prop where
 map:∃ D,W.ownsMap P kt RSl b k D/\MpS D K f
 rows:∀ s,W.ownsRow B et size (HsV (f s)) (f s).n (X s)
 apart:∀ s t,s≠t -> ∀ g,(HsV (f s)).ownBlock=some g -> (HsV (f t)).ownBlock≠some g
 below:Below w.heap.size w W
 hb:w.heap.size <= b/\b < B/\B <= W.heap.size
theorem MRo.start (w:World):MRo P kt et size (w.heap.size+1) w (w.alloc (.map #[] 0)) w.heap.size 0 (fun _=>False) (fun _=>hs0) (fun _=>[]):=
 ⟨⟨_,World.ownsMap_made _ _ _ _,zeN⟩,fun _=>World.ownsRow_nil _ _ _ _,fun _ _ _ g h=>(by cases h),(Below.refl _ _).alloc (Nat.le_refl _) _,Nat.le_refl _,Nat.lt_succ_self _,by simp⟩
theorem jn (h:Below W.heap.size W W2):W.grownBy W2 none:=⟨h.os,h.tape,h.output,h.size,fun k hk _=>h.block k hk⟩
theorem MRo.later (M:MRo P kt et size B w W b k K f X) (h:Below W.heap.size W W2):MRo P kt et size B w W2 b k K f X:=by
 obtain ⟨D,hD,hM⟩:=M.map
 have hlt:b < W.heap.size:=by have:=M.hb;omega
 refine ⟨⟨D,?_,hM⟩,fun s=>(M.rows s).kept (jn h) ?_,M.apart,M.below.trans (h.mono M.below.size),M.hb.1,M.hb.2.1,Nat.le_trans M.hb.2.2 h.size⟩
 ·obtain ⟨es,c,h1,h2⟩:=hD;exact ⟨es,c,(h.block b hlt).trans h1,h2⟩
 ·cases (HsV (f s)).ownBlock with
  | none=>exact .inl rfl
  | some g=>exact .inr (by simp)
theorem MRo.look (M:MRo P kt et size B w W b k K f X) (hK:Keyed P kt) (hk:P.underlying kt=some .string) {t st:TypeId} (ht:P.underlying t=some (.map kt st)) (hz:(zeroValue st).run P W = .ok (HsV hs0) W) (s:ByteArray) (hs:s.size <= maxLen) :
  (Instr.lookup t (.map (some b)) (.string s) false).run P W = .ok (HsV (f s)) W:=by
 obtain ⟨D,hD,hM⟩:=M.map;obtain ⟨v,ps,hr,hv⟩:=hD.lookup hK ht hz (zhP hs0) (Go.WideMaps.keyOf_string_mk hk hs);rw [hM.2 s] at hv;rw [hr,ziG hv]
structure MRm (P:Program) (kt et:TypeId) (size B:Nat) (w W:World) (b k:Nat) (K:ByteArray -> Prop) (f:ByteArray -> Hs) (X:ByteArray -> List Value) (s:ByteArray) (x:Hs) (Y:List Value):Prop where
 map:∃ D,W.ownsMap P kt RSl b k D/\MpS D K f
 row:W.ownsRow B et size (HsV x) x.n Y
 rows:∀ t,t≠s -> W.ownsRow B et size (HsV (f t)) (f t).n (X t)
 apart:∀ t u,t≠u -> ∀ g,(HsV (f t)).ownBlock=some g -> (HsV (f u)).ownBlock≠some g
 apartS:∀ t,t≠s -> ∀ g,(HsV (f t)).ownBlock=some g -> (HsV x).ownBlock≠some g
 below:Below w.heap.size w W
 hb:w.heap.size <= b/\b < B/\B <= W.heap.size
theorem MRo.app (M:MRo P kt et size B w W b k K f X) (s:ByteArray) {st ty:TypeId} {i:TypeInfo} {z:Value} {bytes:Nat} (hst:P.underlying st=some (.slice et)) (hi:P.info? et=some i) (hz:i.zero=some z) (hsize:i.size=size) (hby:i.bytes=bytes) (hzs:z.cells.size=size) (hsz:0 < size)
  (a:Addr) (c:Nat) (news:List Value) (hl:news.length=size) (hnews:∀ j u,news[j]? = some u -> W.cell? (a.add j)=some u) (h1:∀ u∈news,u.oneCell'=true) (h63:(f s).n+1 <= maxLen) (hbytes:((f s).n+1) * bytes <= 140737488355328) :
  ∃ g c2 W2,(Builtin.append_ #[st,st] ty #[HsV (f s),.slice (some a) 1 c]).run P W = .ok (.slice (some ⟨g,0,none⟩) ((f s).n+1) c2) W2/\MRm P kt et size B w W2 b k K f X s ⟨some ⟨g,0,none⟩,(f s).n+1,c2⟩ (X s++news)/\∀ q,q < W.heap.size -> (HsV (f s)).ownBlock≠some q -> W2.heap[q]? = W.heap[q]?:=by
 obtain ⟨v',W2,hrun,hown,hgrow,_,hat⟩:=run_append_own_at (P:=P) W B st ty et i z size bytes hst hi hz hsize hby hzs hsz (HsV (f s)) (f s).n (X s) (M.rows s) a 1 c news (by omega) hnews h1 h63 hbytes M.hb.2.2;rcases hown.2 with ⟨h0,h00⟩ | ⟨g,cap2,cur,hv,hbg,hgg,hnc,hcm,hcsz,htake⟩
 ·omega
 ·subst hv;obtain ⟨D,hD,hM⟩:=M.map
  have hlt:b < W.heap.size:=by have:=M.hb;omega
  have hrow:∀ k,(HsV (f s)).ownBlock=some k -> B <= k:=fun k hk=>((M.rows s).lt k hk).1;refine ⟨g,cap2,W2,hrun,⟨⟨D,?_,hM⟩,hown,fun t ht=>(M.rows t).kept hgrow ?_,M.apart,fun t ht q hq e=>?_,M.below.grown hgrow M.below.size (fun k hk=>by have:=hrow k hk;have:=M.hb;omega),M.hb.1,M.hb.2.1,Nat.le_trans M.hb.2.2 hgrow.size⟩,fun q hq hn=>hgrow.block q hq (fun e=>hn e.symm)⟩
  ·obtain ⟨es,c,h1,h2⟩:=hD;exact ⟨es,c,(hgrow.block b hlt (fun e=>by have:=hrow b e.symm;have:=M.hb;omega)).trans h1,h2⟩
  ·cases ho:(HsV (f t)).ownBlock with
   | none=>exact .inl rfl
   | some q=>exact .inr (fun e=>M.apart t s ht q ho e.symm)
  ·have hq2:=((M.rows t).lt q hq).2;rcases hat with h | h
   ·rw [h] at e;exact M.apart t s ht q hq e
   ·rw [h] at e;have:=Option.some.inj e;omega
theorem MRm.put {s:ByteArray} {x:Hs} {Y:List Value} (M:MRm P kt et size B w W b k K f X s x Y) (hK:Keyed P kt) (hk:P.underlying kt=some .string) {t st:TypeId} (ht:P.underlying t=some (.map kt st)) (hs:s.size <= maxLen) (hn:k < maxLen) :
  ∃ W2,(Instr.mapUpdate t (.map (some b)) (.string s) (HsV x)).run P W = .ok () W2/\MRo P kt et size B w W2 b (k+1) (fun u=>u=s∨K u) (fun u=>if u=s then x else f u) (fun u=>if u=s then Y else X u)/\∀ q,q < W.heap.size -> q≠b -> W2.heap[q]? = W.heap[q]?:=by
 obtain ⟨D,hD,hM⟩:=M.map;have hmap:=hD.isMap;obtain ⟨W2,hr,ho,hg⟩:=hD.update hK ht hn (Go.WideMaps.keyOf_string_mk hk hs) (zhP x)
 have hne:∀ (v:Value) (n:Nat) (xs:List Value),W.ownsRow B et size v n xs -> v.ownBlock=none∨v.ownBlock≠some b:=fun v n xs h=>by
  cases hv:v.ownBlock with
  | none=>exact .inl rfl
  | some q=>exact .inr (fun e=>by have:=(h.lt q hv).1;have:=M.hb;have:=Option.some.inj e;omega)
 refine ⟨W2,hr,⟨⟨_,ho,zgn hM hmap s x _ (if_pos rfl) (fun u hu=>if_neg hu)⟩,fun u=>?_,fun u v huv g hg1=>?_,M.below.grown hg M.below.size (fun j hj=>by cases hj;exact M.hb.1),M.hb.1,M.hb.2.1,Nat.le_trans M.hb.2.2 hg.size⟩,fun q hq hn=>hg.block q hq (fun e=>hn (Option.some.inj e))⟩
 ·by_cases hu:u=s
  ·simp only [if_pos hu];exact M.row.kept hg (hne _ _ _ M.row)
  ·simp only [if_neg hu];exact (M.rows u hu).kept hg (hne _ _ _ (M.rows u hu))
 ·by_cases hu:u=s
  ·have hv:¬ v=s:=fun e=>huv (hu.trans e.symm);simp only [if_pos hu,if_neg hv] at hg1 ⊢;exact fun e=>M.apartS v hv g e hg1
  ·by_cases hv:v=s
   ·simp only [if_neg hu,if_pos hv] at hg1 ⊢;exact M.apartS u hu g hg1
   ·simp only [if_neg hu,if_neg hv] at hg1 ⊢;exact M.apart u v huv g hg1
theorem xB {W W2:World} {ops:Array Oper} {o:Oper} {a:Act} {K:Act -> World -> Prop} {Q:Exit -> Act -> World -> Prop} {E:Prop} {v1 v2 v':Value} {st:TypeId} (hgd:o.guard=none) (s x:Operand) (ho:o.op = .call { callee:=.builtin .append,args:=#[s,x],argTypes:=#[st,st] })
  (hs:a.eval s=v1) (hx:a.eval x=v2) (hrun:(Builtin.append_ #[st,st] o.type #[v1,v2]).run P W = .ok v' W2) (hK:K (a.put o.dst v') W2) :
  if Region.wanted o (yielded ops a.tmps)=true then Oper.wp P o a W K Q else E:=by
 have hw:Region.wanted o (yielded ops a.tmps)=true:=by simp [Region.wanted,hgd]
 rw [if_pos hw];unfold Oper.wp;simp [execOp,ho,resolve,invoke,builtin,hs,hx,hrun,Result.andThen];exact hK
theorem xK {W W2:World} {ops:Array Oper} {rest:List Oper} {o:Oper} {a:Act} {Q:Exit -> Act -> World -> Prop} {v1 v2 v':Value} {st:TypeId} (hgd:o.guard=none) (s x:Operand) (ho:o.op = .call { callee:=.builtin .append,args:=#[s,x],argTypes:=#[st,st] })
  (hs:a.eval s=v1) (hx:a.eval x=v2) (hrun:(Builtin.append_ #[st,st] o.type #[v1,v2]).run P W = .ok v' W2) (hK:wpList P ops Q rest (a.put o.dst v') W2):wpList P ops Q (o :: rest) a W:=
 wpList_plain hgd fun K hKK=>by
  unfold Oper.wp;simp [execOp,ho,resolve,invoke,builtin,hs,hx,hrun,Result.andThen];exact hKK _ _ hK
end
section
open Go.RowKit Go.Maps Go.Sort
def pvs (L:List Pv):List Value:=(L.map (fun p=>(PC p).toList)).flatten
theorem yV (L R:List Pv):pvs (L++R)=pvs L++pvs R:=by simp [pvs]
theorem zez (p:Pv):pvs [p]=(PC p).toList:=by simp [pvs]
theorem j8 (L:List Pv):(pvs L).length=L.length * 2:=by
 induction L with
 | nil=>rfl
 | cons a L ih=>have:pvs (a :: L)=(PC a).toList++pvs L:=rfl;rw [this,List.length_append,ih];simp [PC];omega
theorem ziY (L:List Pv) (t j:Nat) (ht:t < L.length) (hj:j < 2):(pvs L)[t * 2+j]? = (PC L[t]).toList[j]?:=by
 induction L generalizing t with
 | nil=>simp at ht
 | cons a L ih =>
  have e:pvs (a :: L)=(PC a).toList++pvs L:=rfl
  cases t with
  | zero=>rw [e,List.getElem?_append_left (by simp [PC];omega)];simp
  | succ t =>
   rw [e,List.getElem?_append_right (by simp [PC];omega)];have h:=ih t (by simpa using ht)
   have e4:(t+1) * 2+j - (PC a).toList.length=t * 2+j:=by simp [PC];omega
   rw [e4,h];simp
theorem zcH (p:Pv):∀ v∈(PC p).toList,v.oneCell'=true:=by
 intro v hv;simp [PC] at hv;rcases hv with rfl | rfl <;> rfl
theorem infoPast:(Tryz.prog.info? 26).map (fun i=>(i.zero,i.size,i.bytes))=some (some (.agg #[.slice none 0 0,.slice none 0 0]),2,48):=by kernel_rfl
theorem zb2 {W:World} {B:Nat} {h:Hs} {L:List Pv} (hr:W.ownsRow B 26 2 (HsV h) h.n (pvs L)) (hs:∀ p∈L,PSrc W p):PRow W h.o h.n L:=by
 have hl:L.length=h.n:=by have:=hr.1;rw [j8] at this;omega
 obtain ⟨o,n,c⟩:=h;rcases hr.2 with ⟨h0,h00⟩ | ⟨g,cap,cur,hv,hbg,hgg,hnc,hcm,hcsz,htake⟩
 ·refine ⟨hl,fun _=>h00,fun ad e t p hp=>?_,hs⟩;have:=(List.getElem?_eq_some_iff.1 hp).1;omega
 ·simp only [Value.slice.injEq] at hv;obtain ⟨rfl,-,rfl⟩:=hv;refine ⟨hl,fun e=>(by cases e),fun ad e t p hp=>?_,hs⟩;obtain rfl:(⟨g,0,none⟩:Addr)=ad:=Option.some.inj e;obtain ⟨ht,hpt⟩:=List.getElem?_eq_some_iff.1 hp
  have hc:∀ j,j < 2 -> W.cell? ⟨g,t * 2+j,none⟩=(PC p).toList[j]?:=fun j hj=>by
   have h1:=World.ownsRow.cellAt hr (t * 2+j) (by dsimp only at hl ⊢;omega);rw [h1,ziY L t j ht hj,hpt]
  refine ⟨?_,?_⟩
  ·rw [Addr.add_lit,Nat.zero_add];exact hc 0 (by omega)
  ·rw [Addr.add_lit,Addr.add_lit,Nat.zero_add];exact hc 1 (by omega)
theorem zi4 {w W:World} {b B k:Nat} {K:ByteArray -> Prop} {f:ByteArray -> Hs} {X:ByteArray -> List Value} (M:MRo Tryz.prog 9 26 2 B w W b k K f X) (s:ByteArray) (p:Pv) (hn:(f s).n <= 2900000000000) :
  ∃ g c2 W2,(Builtin.append_ #[151,151] 151 #[HsV (f s),.slice (some ⟨W.heap.size,0,none⟩) 1 1]).run Tryz.prog (W.alloc (.cells (PC p) 26)) = .ok (.slice (some ⟨g,0,none⟩) ((f s).n+1) c2) W2/\MRm Tryz.prog 9 26 2 B w W2 b k K f X s ⟨some ⟨g,0,none⟩,(f s).n+1,c2⟩ (X s++(PC p).toList)/\∀ q,q < W.heap.size -> (HsV (f s)).ownBlock≠some q -> W2.heap[q]? = W.heap[q]?:=by
 obtain ⟨i0,hi,hz0,hz1,hz2⟩:=info_parts infoPast
 obtain ⟨g,c2,W2,h1,h2,h3⟩:=(M.later (ze W (.cells (PC p) 26))).app s (ty:=151) Tryz.underlying151 hi hz0 hz1 hz2 (by simp [Value.cells]) (by decide) ⟨W.heap.size,0,none⟩ 1 (PC p).toList rfl (fun j u hj=>by
  rw [Addr.add_lit,Nat.zero_add,World.cell?_alloc_new]
  simpa using hj) (zcH p) (by unfold maxLen;omega) (by omega)
 exact ⟨g,c2,W2,h1,h2,fun q hq hn=>(h3 q (by simp;omega) hn).trans (Below.heap_alloc W _ q hq)⟩
structure OwnP (B:Nat) (w W:World) (h:Hs) (L:List Pv):Prop where
 own:W.ownsRow B 26 2 (HsV h) h.n (pvs L)
 src:∀ p∈L,PSrc W p
 below:Below w.heap.size w W
 hB:w.heap.size <= B/\B <= W.heap.size
theorem OwnP.nil (w:World):OwnP w.heap.size w w hs0 []:=⟨World.ownsRow_nil _ _ _ _,fun p h=>(by cases h),Below.refl _ _,Nat.le_refl _,Nat.le_refl _⟩
theorem OwnP.later {B:Nat} {w W W2:World} {h:Hs} {L:List Pv} (O:OwnP B w W h L) (hb:Below W.heap.size W W2):OwnP B w W2 h L:=by
 refine ⟨O.own.kept (jn hb) ?_,fun p hp=>(O.src p hp).below hb,O.below.trans (hb.mono O.below.size),O.hB.1,Nat.le_trans O.hB.2 hb.size⟩
 cases (HsV h).ownBlock with
 | none=>exact .inl rfl
 | some g=>exact .inr (by simp)
theorem OwnP.row {B:Nat} {w W:World} {h:Hs} {L:List Pv} (O:OwnP B w W h L):PRow W h.o h.n L:=zb2 O.own O.src
end
section
open Go.RowKit Go.Maps Go.Sort
theorem xZ {W W':World} {p:Pv} {g:Option Nat} (h:PSrc W p) (hf:∀ k,g=some k -> PFar p k) (hk:∀ q,q < W.heap.size -> some q≠g -> W'.heap[q]? = W.heap[q]?):PSrc W' p:=by
 have ev:∀ ad,p.vo=some ad -> ∀ t,t < p.vn -> W'.cell? (ad.add t)=W.cell? (ad.add t):=fun ad e t ht=>by
  have hc:=h.vec.2.2 ad e t ht;have hl:=World.block_lt_of_cell? _ _ hc;rw [zs] at hl;unfold World.cell?;rw [zs,hk _ hl (fun eg=>(hf _ eg.symm).1 (by omega) ad e rfl)]
 have ec:∀ ad,p.co=some ad -> ∀ t,t < p.cn -> ∀ j,W'.cell? (ad.add j)=W.cell? (ad.add j):=fun ad e t ht j=>by
  have hl:=World.block_lt_of_cell? _ _ (h.cloud.cell ad e t ht).c0;rw [zs] at hl;unfold World.cell?;rw [zs,hk _ hl (fun eg=>(hf _ eg.symm).2 (by omega) ad e rfl)]
 refine ⟨⟨h.vec.1,h.vec.2.1,fun ad e t ht=>by rw [ev ad e t ht];exact h.vec.2.2 ad e t ht⟩,⟨h.cloud.len,h.cloud.nil,fun ad e t ht=>?_,h.cloud.big,h.cloud.cap⟩,h.big⟩;have A:=h.cloud.cell ad e t ht;have e':=ec ad e t ht;exact ⟨by rw [e'];exact A.c0,by have:=A.c1;rw [qA] at this ⊢;rw [e'];exact this,by have:=A.c2;rw [qA] at this ⊢;rw [e'];exact this⟩
def FarH (h:Hs) (p:Pv):Prop:=∀ k,(HsV h).ownBlock=some k -> PFar p k
theorem OwnP.app {B:Nat} {w W:World} {h:Hs} {L:List Pv} (O:OwnP B w W h L) (hF:∀ p∈L,FarH h p) (p:Pv) (hp:PSrc W p) (hf:FarH h p) (hn:h.n <= 2900000000000) :
  ∃ g c2 W2,(Builtin.append_ #[151,151] 151 #[HsV h,.slice (some ⟨W.heap.size,0,none⟩) 1 1]).run Tryz.prog (W.alloc (.cells (PC p) 26)) = .ok (.slice (some ⟨g,0,none⟩) (h.n+1) c2) W2/\OwnP B w W2 ⟨some ⟨g,0,none⟩,h.n+1,c2⟩ (L++[p])/\(∀ q∈L++[p],FarH ⟨some ⟨g,0,none⟩,h.n+1,c2⟩ q)/\(∀ q,q < W.heap.size -> (HsV h).ownBlock≠some q -> W2.heap[q]? = W.heap[q]?):=by
 obtain ⟨i0,hi,hz0,hz1,hz2⟩:=info_parts infoPast;have b1:=ze W (.cells (PC p) 26);have O1:=O.later b1
 obtain ⟨v',W2,hrun,hown,hgrow,_,hat⟩:=run_append_own_at (P:=Tryz.prog) (W.alloc (.cells (PC p) 26)) B 151 151 26 i0 (.agg #[.slice none 0 0,.slice none 0 0]) 2 48 Tryz.underlying151 hi hz0 hz1 hz2 (by simp [Value.cells]) (by decide) (HsV h) h.n (pvs L) O1.own ⟨W.heap.size,0,none⟩ 1 1 (PC p).toList rfl (fun j u hj=>by
  rw [Addr.add_lit,Nat.zero_add,World.cell?_alloc_new]
  simpa using hj) (zcH p) (by unfold maxLen;omega) (by omega) O1.hB.2
 rcases hown.2 with ⟨h0,h00⟩ | ⟨g,cap2,cur,hv,hbg,hgg,hnc,hcm,hcsz,htake⟩
 ·omega
 ·subst hv
  have hall:∀ q∈L++[p],PSrc (W.alloc (.cells (PC p) 26)) q/\FarH h q:=fun q hq=>by
   rcases List.mem_append.1 hq with hq | hq
   ·exact ⟨O1.src q hq,hF q hq⟩
   ·obtain rfl:q=p:=by simpa using hq
    exact ⟨hp.below b1,hf⟩
  have hrow:∀ k,(HsV h).ownBlock=some k -> B <= k:=fun k hk=>(O1.own.lt k hk).1;refine ⟨g,cap2,W2,hrun,⟨by rw [yV,zez];exact hown,fun q hq=>xZ (hall q hq).1 (fun k hk=>(hall q hq).2 k hk) (fun k hk hn=>hgrow.block k hk hn),O1.below.grown hgrow O1.below.size (fun k hk=>by have:=hrow k hk;have:=O.hB;omega),O.hB.1,Nat.le_trans O1.hB.2 hgrow.size⟩,fun q hq k hk=>?_,fun q hq hn=>(hgrow.block q (by simp;omega) (fun e=>hn e.symm)).trans (Below.heap_alloc W _ q hq)⟩;rcases hat with e | e
  ·exact (hall q hq).2 k (by rw [<- e];exact hk)
  ·rw [e] at hk;have:=Option.some.inj hk;exact PFar.old (hall q hq).1 (by omega)
/-! ### records -/
def rvs (L:List Rc):List Value:=(L.map (fun r=>(ReC (mkR r)).toList)).flatten
theorem yT (L R:List Rc):rvs (L++R)=rvs L++rvs R:=by simp [rvs]
theorem zhZ (r:Rc):rvs [r]=(ReC (mkR r)).toList:=by simp [rvs]
theorem vA (L:List Rc):(rvs L).length=L.length * 3:=by
 induction L with
 | nil=>rfl
 | cons a L ih=>have:rvs (a :: L)=(ReC (mkR a)).toList++rvs L:=rfl;rw [this,List.length_append,ih];simp [ReC];omega
theorem zek (L:List Rc) (t j:Nat) (ht:t < L.length) (hj:j < 3):(rvs L)[t * 3+j]? = (ReC (mkR (L.getD t rc0))).toList[j]?:=by
 induction L generalizing t with
 | nil=>simp at ht
 | cons a L ih =>
  have e:rvs (a :: L)=(ReC (mkR a)).toList++rvs L:=rfl
  cases t with
  | zero=>rw [e,List.getElem?_append_left (by simp [ReC];omega)];simp [List.getD]
  | succ t =>
   rw [e,List.getElem?_append_right (by simp [ReC];omega)];have h:=ih t (by simpa using ht)
   have e4:(t+1) * 3+j - (ReC (mkR a)).toList.length=t * 3+j:=by simp [ReC];omega
   rw [e4,h];simp [List.getD]
theorem bH (r:Rc):∀ v∈(ReC (mkR r)).toList,v.oneCell'=true:=by
 intro v hv;simp [ReC] at hv;rcases hv with rfl | rfl | rfl <;> rfl
theorem infoRec:(Tryz.prog.info? 78).map (fun i=>(i.zero,i.size,i.bytes))=some (some (.agg #[.string ⟨#[]⟩,.slice none 0 0,.slice none 0 0]),3,64):=by kernel_rfl
structure OwnRc (B:Nat) (w W:World) (h:Hs) (L:List Rc):Prop where
 own:W.ownsRow B 78 3 (HsV h) h.n (rvs L)
 ok:∀ r∈L,RcOk W r/\FarH h r.p
 below:Below w.heap.size w W
 hB:w.heap.size <= B/\B <= W.heap.size
theorem OwnRc.nil (w:World):OwnRc w.heap.size w w hs0 []:=⟨World.ownsRow_nil _ _ _ _,fun p h=>(by cases h),Below.refl _ _,Nat.le_refl _,Nat.le_refl _⟩
theorem OwnRc.later {B:Nat} {w W W2:World} {h:Hs} {L:List Rc} (O:OwnRc B w W h L) (hb:Below W.heap.size W W2):OwnRc B w W2 h L:=by
 refine ⟨O.own.kept (jn hb) ?_,fun p hp=>⟨(O.ok p hp).1.below hb,(O.ok p hp).2⟩,O.below.trans (hb.mono O.below.size),O.hB.1,Nat.le_trans O.hB.2 hb.size⟩
 cases (HsV h).ownBlock with
 | none=>exact .inl rfl
 | some g=>exact .inr (by simp)
theorem OwnRc.app {B:Nat} {w W:World} {h:Hs} {L:List Rc} (O:OwnRc B w W h L) (r:Rc) (hp:RcOk W r) (hf:FarH h r.p) (hn:h.n <= 2199023255551) :
  ∃ g c2 W2,(Builtin.append_ #[27,27] 27 #[HsV h,.slice (some ⟨W.heap.size,0,none⟩) 1 1]).run Tryz.prog (W.alloc (.cells (ReC (mkR r)) 78)) = .ok (.slice (some ⟨g,0,none⟩) (h.n+1) c2) W2/\OwnRc B w W2 ⟨some ⟨g,0,none⟩,h.n+1,c2⟩ (L++[r])/\(∀ q,q < W.heap.size -> (HsV h).ownBlock≠some q -> W2.heap[q]? = W.heap[q]?):=by
 obtain ⟨i0,hi,hz0,hz1,hz2⟩:=info_parts infoRec;have b1:=ze W (.cells (ReC (mkR r)) 78);have O1:=O.later b1
 obtain ⟨v',W2,hrun,hown,hgrow,_,hat⟩:=run_append_own_at (P:=Tryz.prog) (W.alloc (.cells (ReC (mkR r)) 78)) B 27 27 78 i0 (.agg #[.string ⟨#[]⟩,.slice none 0 0,.slice none 0 0]) 3 64 Tryz.underlying27 hi hz0 hz1 hz2 (by simp [Value.cells]) (by decide) (HsV h) h.n (rvs L) O1.own ⟨W.heap.size,0,none⟩ 1 1 (ReC (mkR r)).toList rfl (fun j u hj=>by
  rw [Addr.add_lit,Nat.zero_add,World.cell?_alloc_new]
  simpa using hj) (bH r) (by unfold maxLen;omega) (by omega) O1.hB.2
 rcases hown.2 with ⟨h0,h00⟩ | ⟨g,cap2,cur,hv,hbg,hgg,hnc,hcm,hcsz,htake⟩
 ·omega
 ·subst hv
  have hall:∀ q∈L++[r],RcOk (W.alloc (.cells (ReC (mkR r)) 78)) q/\FarH h q.p:=fun q hq=>by
   rcases List.mem_append.1 hq with hq | hq
   ·exact O1.ok q hq
   ·obtain rfl:q=r:=by simpa using hq
    exact ⟨hp.below b1,hf⟩
  have hrow:∀ k,(HsV h).ownBlock=some k -> B <= k:=fun k hk=>(O1.own.lt k hk).1;refine ⟨g,cap2,W2,hrun,⟨by rw [yT,zhZ];exact hown,fun q hq=>⟨⟨xZ (hall q hq).1.1 (fun k hk=>(hall q hq).2 k hk) (fun k hk hn=>hgrow.block k hk hn),(hall q hq).1.2⟩,fun k hk=>?_⟩,O1.below.grown hgrow O1.below.size (fun k hk=>by have:=hrow k hk;have:=O.hB;omega),O.hB.1,Nat.le_trans O1.hB.2 hgrow.size⟩,fun q hq hn=>(hgrow.block q (by simp;omega) (fun e=>hn e.symm)).trans (Below.heap_alloc W _ q hq)⟩;rcases hat with e | e
  ·exact (hall q hq).2 k (by rw [<- e];exact hk)
  ·rw [e] at hk;have:=Option.some.inj hk;exact PFar.old (hall q hq).1.1 (by omega)
theorem OwnRc.src {B:Nat} {w W:World} {h:Hs} {L:List Rc} (O:OwnRc B w W h L) (hn:h.n <= 2199023255552):RcS W h.o h.n h.c L:=by
 have hl:L.length=h.n:=by have:=O.own.1;rw [vA] at this;omega
 have hok:∀ r∈L,RcOk W r:=fun r hr=>(O.ok r hr).1;have hr:=O.own;obtain ⟨o,n,c⟩:=h;rcases hr.2 with ⟨h0,h00⟩ | ⟨g,cap,cur,hv,hbg,hgg,hnc,hcm,hcsz,htake⟩
 ·refine ⟨hl,fun _=>h00,fun ad e t ht=>?_,hok,hn⟩;omega
 ·simp only [Value.slice.injEq] at hv;obtain ⟨rfl,-,rfl⟩:=hv;refine ⟨hl,fun e=>(by cases e),fun ad e t ht=>?_,hok,hn⟩;obtain rfl:(⟨g,0,none⟩:Addr)=ad:=Option.some.inj e
  have hc:∀ j,j < 3 -> W.cell? ⟨g,t * 3+j,none⟩=(ReC (mkR (L.getD t rc0))).toList[j]?:=fun j hj=>by
   have h1:=World.ownsRow.cellAt hr (t * 3+j) (by dsimp only at ht ⊢;omega);rw [h1,zek L t j (by omega) hj]
  refine ⟨?_,?_,?_⟩
  ·rw [Addr.add_lit,Nat.zero_add];exact hc 0 (by omega)
  ·rw [Addr.add_lit,Addr.add_lit,Nat.zero_add];exact hc 1 (by omega)
  ·rw [Addr.add_lit,Addr.add_lit,Nat.zero_add];exact hc 2 (by omega)
end
end Go.Proofs.YtjffpimfngdggaaGreat
namespace Go.Proofs
open Go.Shelf
def Tryz.growRe_ren:Go.Shelf.Ren:=⟨fun | 4=>210 | n=>n,fun | 22=>27 | 25=>78 | 3=>3 | 4=>4 | 9=>9 | 20=>20 | 0=>0 | n=>n,fun | n=>n⟩
theorem Tryz.growRe:Go.Proofs.Lays8.n4 Tryz.prog Tryz.growRe_ren:={
 mixed:=by kernel_rfl
 f4:=⟨Tryz.f210.name,by decide,Tryz.func210.trans (congrArg some (by kernel_rfl))⟩
 t0:=Tryz.underlying0
 a0:=Tryz.isAgg0
 z0:=Tryz.sizeOf0
 v0:=Tryz.zeroValue0
 t3:=Tryz.underlying3
 a3:=Tryz.isAgg3
 z3:=Tryz.sizeOf3
 v3:=Tryz.zeroValue3
 t4:=Tryz.underlying4
 a4:=Tryz.isAgg4
 z4:=Tryz.sizeOf4
 v4:=Tryz.zeroValue4
 t9:=Tryz.underlying9
 a9:=Tryz.isAgg9
 z9:=Tryz.sizeOf9
 v9:=Tryz.zeroValue9
 t20:=Tryz.underlying20
 a20:=Tryz.isAgg20
 z20:=Tryz.sizeOf20
 v20:=Tryz.zeroValue20
 t22:=Tryz.underlying27
 a22:=Tryz.isAgg27
 z22:=Tryz.sizeOf27
 v22:=Tryz.zeroValue27 }
end Go.Proofs
