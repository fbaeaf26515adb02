/- EJd GEr -/
import Derived.Test.YtjeilkenjdnafaaGreatTk
import Derived.Test.YtjeilkenjdnafaaGreatDk35
import Derived.Test.YtjeilkenjdnafaaGreatDk33
import Derived.Test.YtjeilkenjdnafaaGreatDk18
import Derived.Test.YtjeilkenjdnafaaGreatDk15
import Derived.Test.YtjeilkenjdnafaaGreatDk00
set_option maxRecDepth 100000
set_option maxHeartbeats 6400000
namespace Go.Proofs.YtjeilkenjdnafaaGreat
open Go.RowKit
attribute [local go_sem ↓] ldP_eq stP_eq ldD_eq stD_eq K.ld28_eq K.st28_eq
attribute [local go_sem] cells_PV PC_size
def dsB (s:ByteArray) (r:Int) (e:K.En):Bool:=(decide (s.size=0) || (e.sku.toList == s.toList)) && (decide (r < 0) || (e.rep == r))
theorem snocF {L:List K.En} {k:Nat} (h:k < L.length) (p:K.En -> Bool):(L.take (k+1)).filter p=(L.take k).filter p++(if p (L.getD k K.en0)=true then [L.getD k K.en0] else []):=by
 rw [K.take_snoc L k h,List.filter_append];congr 1
 cases hq:p (L.getD k K.en0)
 ·rw [List.filter_cons_of_neg (by rw [hq];decide)];rfl
 ·rw [List.filter_cons_of_pos (by rw [hq])];rfl
theorem resP1 {w:World} {g:Nat} {fn:Func} {p:Tmp} {m:Pv} (h:fn.results=#[.cell p 26]) {tmps:Array Value} (hp:tmps.getD p undef = .pointer (some ⟨g,0,none⟩)) (A:PBox w g m) :
  (results fn tmps).run Tryz.prog w = .ok (PV m) w:=by
 have hl:=run_lvP A.at
 simp only [results,h];rw [Array.getD_eq_getD_getElem?] at hp;simp [hp,asAddr,hl]
theorem refDots8_any (ao:Option Addr) (n cap:Nat) (L:List K.En) (s:ByteArray) (r:Int) (w:World) (hS:K.ESrc w ao n cap L):Calls Tryz.prog 28 #[.slice ao n cap,.string s,.int .i64 r] w fun x w'=>GivesP w w' x (CanonOf (dotsG ((L.filter (dsB s r)).map dotOf))):=by
 have b1:=below_new w (.cells #[.slice none 0 0,.slice none 0 0] 26);have x1:PBox (w.alloc (.cells #[.slice none 0 0,.slice none 0 0] 26)) w.heap.size pv0:=pbox_new w pv0;obtain ⟨w2,hw1⟩:∃ w1,w.alloc (.cells #[.slice none 0 0,.slice none 0 0] 26)=w1:=⟨_,rfl⟩;obtain ⟨g1,hg1⟩:∃ g1,w.heap.size=g1:=⟨_,rfl⟩;rw [hw1] at b1 x1;rw [hg1] at x1;have HX2:Hid (PBox w2 g1 pv0/\K.ESrc w2 ao n cap L/\w.heap.size=g1):=⟨x1,hS.below b1,hg1⟩;have HB2:=hide b1;have HL:Hid (L.length=n/\n <= 3518437208883):=⟨hS.1,hS.2.2.2.2⟩;have hnb:=HL.out.2;clear b1 x1 hS;go_enter Tryz.func28,Tryz.ntmps28;go_wp2_with fail;clear hw1 hg1;go_loopw [7,8] (fun v i wr=>∃ (k m:Nat) (ap:Option Addr) (c:Nat),k <= n/\(((L.take k).filter (dsB s r)).map dotOf).length=m/\v = .slice ap m c/\i = .int .i64 (k:Int)/\Hid (OwnD w2.heap.size w2.heap.size w2 wr ap c (((L.take k).filter (dsB s r)).map dotOf))) (fun _ i _=>n - (intOf i).toNat)
 case atStart=>exact ⟨0,0,none,0,Nat.zero_le _,rfl,rfl,rfl,World.ownsRow_nil _ _ _ _,Below.refl _ _,Nat.le_refl _,Nat.le_refl _⟩
 case round =>
  obtain ⟨k,m,ap,c,hk,hm,rfl,rfl,HO⟩:=hrel
  rename World=>wr
  obtain ⟨acc,Hacc⟩:∃ acc,Hid (((L.take k).filter (dsB s r)).map dotOf=acc):=⟨_,rfl⟩
  have Hal:Hid (acc.length=m):=by show _=_;rw [<- Hacc.out];exact hm
  have hmk:m <= k:=by
   rw [<- hm,List.length_map];have h1:=List.length_filter_le (dsB s r) (L.take k);have h2:=List.length_take_le k L;omega
  clear hm;rw [Hacc.out] at HO;by_cases hlt:k < n
  ·have hlti:(k:Int) < (n:Int):=by omega
   obtain ⟨ad,hao,A0⟩:=(HX2.out.2.1.below HO.out.below).at k hlt;subst hao;obtain ⟨e,He⟩:∃ e,Hid (L.getD k K.en0=e):=⟨_,rfl⟩;rw [He.out] at A0;have HT:=hide (snocF (k:=k) (L:=L) (by rw [HL.out.1];exact hlt) (dsB s r));rw [He.out] at HT;have l7:(ldD (.pointer (some (ad.add (k * 4))))).run Tryz.prog wr = .ok (.agg #[.int .i64 e.rep,.int .i64 e.num]) wr:=run_ldD (r:=⟨e.rep,e.num⟩) ⟨A0.c0,A0.c1⟩;have l8:=en_f2 A0;have l9:=A0.c0;have Hlt:Hid (k < n/\m <= k):=⟨hlt,hmk⟩;have HltA:=Hlt;clear A0 hlt hmk;by_cases h0:s.size=0
   ·have e0:=K.empty_yes s h0;by_cases hr:r < 0
    ·skip
     have hd:dsB s r e=true:=by unfold dsB;simp [*]
     have HN:Hid (((L.take (k+1)).filter (dsB s r)).map dotOf=acc++[dotOf e]):=by
      show _=_
      rw [HT.out,hd,List.map_append,Hacc.out];simp
     have HNl:Hid ((((L.take (k+1)).filter (dsB s r)).map dotOf).length=m+1):=by
      show _=_
      rw [HN.out];simp [Hal.out]
     clear hd;go_wp2_with (at_builtin;go_loud (refine (HO.out.later (below_new wr _)).appendS [dotOf e] (some ⟨wr.heap.size,0,none⟩) 1 1 (lit_rsrc wr [dotOf e] _ rfl 55 1 rfl (by omega)) (by have:=Hal.out;have:=Hlt.out;omega) rfl (.tmp 40) (.tmp 46) rfl m Hal.out rfl rfl ?_);intro ao8 c8 w8 O8;have HO8:=hide O8;clear O8);clear l7 l8;go_roundw
     case rel=>exact ⟨k+1,m+1,ao8,c8,Hlt.out.1,by rw [List.length_map] at *;exact HNl.out,rfl,by simp,by show OwnD _ _ _ _ _ _ _;rw [HN.out];exact HO8.out⟩
     case measure=>simp [intOf];have:=Hlt.out;omega
    ·cases hq:(e.rep == r) with
     | true =>
      have hd:dsB s r e=true:=by unfold dsB;simp [*]
      have HN:Hid (((L.take (k+1)).filter (dsB s r)).map dotOf=acc++[dotOf e]):=by
       show _=_
       rw [HT.out,hd,List.map_append,Hacc.out];simp
      have HNl:Hid ((((L.take (k+1)).filter (dsB s r)).map dotOf).length=m+1):=by
       show _=_
       rw [HN.out];simp [Hal.out]
      clear hd;go_wp2_with (at_builtin;go_loud (refine (HO.out.later (below_new wr _)).appendS [dotOf e] (some ⟨wr.heap.size,0,none⟩) 1 1 (lit_rsrc wr [dotOf e] _ rfl 55 1 rfl (by omega)) (by have:=Hal.out;have:=Hlt.out;omega) rfl (.tmp 40) (.tmp 46) rfl m Hal.out rfl rfl ?_);intro ao8 c8 w8 O8;have HO8:=hide O8;clear O8);clear l7 l8;go_roundw
      case rel=>exact ⟨k+1,m+1,ao8,c8,Hlt.out.1,by rw [List.length_map] at *;exact HNl.out,rfl,by simp,by show OwnD _ _ _ _ _ _ _;rw [HN.out];exact HO8.out⟩
      case measure=>simp [intOf];have:=Hlt.out;omega
     | false =>
      have hd:dsB s r e=false:=by unfold dsB;simp [*]
      have HN:Hid (((L.take (k+1)).filter (dsB s r)).map dotOf=acc):=by
       show _=_
       rw [HT.out,hd,List.map_append,Hacc.out];simp
      have HNl:Hid ((((L.take (k+1)).filter (dsB s r)).map dotOf).length=m):=by
       show _=_
       rw [HN.out];simp [Hal.out]
      clear hd;go_wp2_with fail;clear l7 l8;go_roundw
      case rel=>exact ⟨k+1,m,ap,c,Hlt.out.1,HNl.out,rfl,by simp,by show OwnD _ _ _ _ _ _ _;rw [HN.out];exact HO.out⟩
      case measure=>simp [intOf];have:=Hlt.out;omega
   ·have e0:=K.empty_no s h0
    cases hs:(e.sku.toList == s.toList) with
    | true =>
     by_cases hr:r < 0
     ·skip
      have hd:dsB s r e=true:=by unfold dsB;simp [*]
      have HN:Hid (((L.take (k+1)).filter (dsB s r)).map dotOf=acc++[dotOf e]):=by
       show _=_
       rw [HT.out,hd,List.map_append,Hacc.out];simp
      have HNl:Hid ((((L.take (k+1)).filter (dsB s r)).map dotOf).length=m+1):=by
       show _=_
       rw [HN.out];simp [Hal.out]
      clear hd;go_wp2_with (at_builtin;go_loud (refine (HO.out.later (below_new wr _)).appendS [dotOf e] (some ⟨wr.heap.size,0,none⟩) 1 1 (lit_rsrc wr [dotOf e] _ rfl 55 1 rfl (by omega)) (by have:=Hal.out;have:=Hlt.out;omega) rfl (.tmp 40) (.tmp 46) rfl m Hal.out rfl rfl ?_);intro ao8 c8 w8 O8;have HO8:=hide O8;clear O8);clear l7 l8;go_roundw
      case rel=>exact ⟨k+1,m+1,ao8,c8,Hlt.out.1,by rw [List.length_map] at *;exact HNl.out,rfl,by simp,by show OwnD _ _ _ _ _ _ _;rw [HN.out];exact HO8.out⟩
      case measure=>simp [intOf];have:=Hlt.out;omega
     ·cases hq:(e.rep == r) with
      | true =>
       have hd:dsB s r e=true:=by unfold dsB;simp [*]
       have HN:Hid (((L.take (k+1)).filter (dsB s r)).map dotOf=acc++[dotOf e]):=by
        show _=_
        rw [HT.out,hd,List.map_append,Hacc.out];simp
       have HNl:Hid ((((L.take (k+1)).filter (dsB s r)).map dotOf).length=m+1):=by
        show _=_
        rw [HN.out];simp [Hal.out]
       clear hd;go_wp2_with (at_builtin;go_loud (refine (HO.out.later (below_new wr _)).appendS [dotOf e] (some ⟨wr.heap.size,0,none⟩) 1 1 (lit_rsrc wr [dotOf e] _ rfl 55 1 rfl (by omega)) (by have:=Hal.out;have:=Hlt.out;omega) rfl (.tmp 40) (.tmp 46) rfl m Hal.out rfl rfl ?_);intro ao8 c8 w8 O8;have HO8:=hide O8;clear O8);clear l7 l8;go_roundw
       case rel=>exact ⟨k+1,m+1,ao8,c8,Hlt.out.1,by rw [List.length_map] at *;exact HNl.out,rfl,by simp,by show OwnD _ _ _ _ _ _ _;rw [HN.out];exact HO8.out⟩
       case measure=>simp [intOf];have:=Hlt.out;omega
      | false =>
       have hd:dsB s r e=false:=by unfold dsB;simp [*]
       have HN:Hid (((L.take (k+1)).filter (dsB s r)).map dotOf=acc):=by
        show _=_
        rw [HT.out,hd,List.map_append,Hacc.out];simp
       have HNl:Hid ((((L.take (k+1)).filter (dsB s r)).map dotOf).length=m):=by
        show _=_
        rw [HN.out];simp [Hal.out]
       clear hd;go_wp2_with fail;clear l7 l8;go_roundw
       case rel=>exact ⟨k+1,m,ap,c,Hlt.out.1,HNl.out,rfl,by simp,by show OwnD _ _ _ _ _ _ _;rw [HN.out];exact HO.out⟩
       case measure=>simp [intOf];have:=Hlt.out;omega
    | false =>
     have hd:dsB s r e=false:=by unfold dsB;simp [*]
     have HN:Hid (((L.take (k+1)).filter (dsB s r)).map dotOf=acc):=by
      show _=_
      rw [HT.out,hd,List.map_append,Hacc.out];simp
     have HNl:Hid ((((L.take (k+1)).filter (dsB s r)).map dotOf).length=m):=by
      show _=_
      rw [HN.out];simp [Hal.out]
     clear hd;go_wp2_with fail;clear l7 l8;go_roundw
     case rel=>exact ⟨k+1,m,ap,c,Hlt.out.1,HNl.out,rfl,by simp,by show OwnD _ _ _ _ _ _ _;rw [HN.out];exact HO.out⟩
     case measure=>simp [intOf];have:=Hlt.out;omega
  ·have hlti:¬ (k:Int) < (n:Int):=by omega
   obtain rfl:k=n:=by omega
   have HAc:Hid (acc=(L.filter (dsB s r)).map dotOf):=by show _=_;rw [<- Hacc.out,List.take_of_length_le (by have:=HL.out.1;omega)]
   obtain ⟨hsr,hnw⟩:=HO.out.src (by have:=Hal.out;omega)
   have hsr2:RSrc wr ap m c acc:=by have:=Hal.out;rw [this] at hsr;exact hsr
   have HC7:=hide (refOf_any ap m c acc wr hsr2 (by omega));have HBr:=wTr HB2 HO.out.below;have HXr:=hide (HX2.out.1.below HO.out.below);have HG:Hid (w.heap.size=g1/\g1 < wr.heap.size):=⟨HX2.out.2.2,HXr.out.lt⟩;clear hsr hnw hsr2 hmk;go_wp2_with fail;refine HC7.out.mono ?_;rintro x w8 ⟨p,rfl,S8,n8,b8,c8⟩;have X8:=HXr.out.below b8;have t8:=run_stP (p':=p) X8;have HX8:Hid (PBox (w8.setRow g1 (PC p)) g1 p):=setRow_heap _ _ _ _ _ _ X8
   have HE:Hid (PSrc (w8.setRow g1 (PC p)) p/\PNew w.heap.size p/\Below w.heap.size w (w8.setRow g1 (PC p))/\CanonOf (dotsG ((L.filter (dsB s r)).map dotOf)) p.P):=
    ⟨psrc_off S8 (fun ad h=>setRow_other _ _ _ _ (by have:=n8.1 ad h;have:=HG.out;omega)) (fun ad h=>setRow_other _ _ _ _ (by have:=n8.2 ad h;have:=HG.out;omega)),n8.mono (by have:=HG.out;omega),below_setRow (HBr.out.trans (b8.mono HBr.out.size)) (by have:=HG.out;omega),by rw [<- HAc.out];exact c8⟩
   clear S8 n8 b8 c8 X8 HC7;go_wp2_with fail;refine bodyPost_ret (resP1 rfl rfl HX8.out) rfl ?_;exact ⟨p,rfl,HE.out⟩
def smB (s:ByteArray) (r:Int) (e:K.En):Bool:=(e.sku.toList == s.toList) && (decide (r < 0) || (e.rep == r))
end Go.Proofs.YtjeilkenjdnafaaGreat
namespace Go.Proofs.YtjeilkenjdnafaaGreat.K
open Go.RowKit
attribute [local go_sem ↓] ld28_eq st28_eq ld26_eq
attribute [local go_sem] zero_EC cells_EV
def isD (x:En):Bool:=(isR x.rep && decide (1 <= x.num)) && decide (x.num <= 1000000000)
theorem ret_b {a b:Bool} (h:a=b):Ending.returned (.bool b) = .returned (.bool a):=by rw [h]
theorem refIsDot_any (x:En) (w:World):Calls Tryz.prog 55 #[.agg (DC x)] w fun e w'=>e = .returned (.bool (isD x))/\Below w.heap.size w w':=by
 have HB:=hide (below_new w (.cells #[.int .i64 x.rep,.int .i64 x.num] 55));unfold DC;obtain ⟨r,m,s,q⟩:=x;by_cases h1:0 <= r
 ·by_cases h2:r < 16
  ·by_cases h3:1 <= m
   ·have HF:Hid (isD ⟨r,m,s,q⟩=decide (m <= 1000000000)):=by show _=_;unfold isD isR;simp [h1,h2,h3]
    go_enter Tryz.func55,Tryz.ntmps55;go_wp2;go_ret;exact ⟨ret_b HF.out,HB.out⟩
   ·have HF:Hid (isD ⟨r,m,s,q⟩=false):=by show _=_;unfold isD isR;simp [h3]
    go_enter Tryz.func55,Tryz.ntmps55;go_wp2;go_ret;exact ⟨ret_b HF.out,HB.out⟩
  ·have HF:Hid (isD ⟨r,m,s,q⟩=false):=by show _=_;unfold isD isR;simp [h2]
   go_enter Tryz.func55,Tryz.ntmps55;go_wp2;go_ret;exact ⟨ret_b HF.out,HB.out⟩
 ·have HF:Hid (isD ⟨r,m,s,q⟩=false):=by show _=_;unfold isD isR;simp [h1]
  go_enter Tryz.func55,Tryz.ntmps55;go_wp2;go_ret;exact ⟨ret_b HF.out,HB.out⟩
theorem ceE_zero (e:En):(ceE e == 0)=(((isD e && good e.sku.data.toList) && decide (1 <= e.qty)) && decide (e.qty <= 1000000)):=by
 unfold ceE isD;by_cases h1:isR e.rep=false
 ·rw [if_pos h1,h1];simp
 ·have h1':isR e.rep=true:=by simpa using h1
  rw [if_neg h1,h1'];by_cases h2:e.num < 1∨1000000000 < e.num
  ·rw [if_pos h2];rcases h2 with h2 | h2
   ·simp [show ¬ 1 <= e.num by omega]
   ·simp [show ¬ e.num <= 1000000000 by omega]
  ·rw [if_neg h2];simp only [show decide (1 <= e.num)=true from decide_eq_true (by omega),show decide (e.num <= 1000000000)=true from decide_eq_true (by omega),Bool.and_true,Bool.true_and];by_cases h3:good e.sku.data.toList=false
   ·rw [if_pos h3,h3];simp
   ·have h3':good e.sku.data.toList=true:=by simpa using h3
    rw [if_neg h3,h3'];by_cases h4:e.qty < 1∨1000000 < e.qty
    ·rw [if_pos h4];rcases h4 with h4 | h4
     ·simp [show ¬ 1 <= e.qty by omega]
     ·simp [show ¬ e.qty <= 1000000 by omega]
    ·rw [if_neg h4];simp [show 1 <= e.qty by omega,show e.qty <= 1000000 by omega]
theorem refEntry_any (e:En) (w:World) (hs:e.sku.size <= maxLen):Calls Tryz.prog 84 #[EV e] w fun x w'=>x = .returned (.bool (ceE e == 0))/\Below w.heap.size w w':=by
 rw [ceE_zero e];have b1:=below_new w (.cells (EC e) 57);have hx:=heap_alloc_new w (.cells (EC e) 57);obtain ⟨wk,hwk⟩:∃ wk,w.alloc (.cells (EC e) 57)=wk:=⟨_,rfl⟩;obtain ⟨G,hG⟩:∃ G,w.heap.size=G:=⟨_,rfl⟩;rw [hwk] at b1 hx;rw [hG] at hx
 have HA:Hid (EnAt wk ⟨G,0,none⟩ e):=by
  refine ⟨?_,?_,?_,?_⟩ <;> simp [Addr.add,World.cell?,hx,EC]
 have HB:=hide b1;clear b1 hx;have l1:=run_ld26 HA.out;go_enter Tryz.func84,Tryz.ntmps84;go_wp2_with fail;clear hwk hG;refine (refIsDot_any e _).mono ?_;rintro x w2 ⟨rfl,b2⟩;have HB2:=wTr HB b2;have A2:=HA.out.on b2;have c2:w2.cell? ⟨G,2,none⟩=some (.string e.sku):=A2.c2;have c3:w2.cell? ⟨G,3,none⟩=some (.int .i64 e.qty):=A2.c3;clear b2 A2 l1
 cases hd:isD e with
 | false =>
  have HD:=hide hd;clear hd;go_wp2_with fail;go_ret;exact ⟨ret_b (by rw [HD.out];rfl),HB2.out⟩
 | true =>
  have HD:=hide hd;clear hd;go_wp2_with fail;refine (refGood_any e.sku _ hs).mono ?_;rintro x w' ⟨rfl,rfl⟩
  cases hg:good e.sku.data.toList with
  | false =>
   have HG:=hide hg;clear hg;go_wp2_with fail;go_ret;exact ⟨ret_b (by rw [HD.out,HG.out];rfl),HB2.out⟩
  | true =>
   have HG:=hide hg;clear hg;by_cases h1:1 <= e.qty
   ·go_wp2_with fail;go_ret;exact ⟨ret_b (by rw [HD.out,HG.out,decide_eq_true h1];rfl),HB2.out⟩
   ·go_wp2_with fail;go_ret;exact ⟨ret_b (by rw [HD.out,HG.out,decide_eq_false (show ¬ 1 <= e.qty by omega)];rfl),HB2.out⟩
theorem refBefore_any (x y:En) (w:World):Calls Tryz.prog 85 #[.agg (DC x),.agg (DC y)] w fun e w'=>e = .returned (.bool (ahead x y))/\Below w.heap.size w w':=by
 have HB:Hid (Below w.heap.size w ((w.alloc (.cells #[.int .i64 x.rep,.int .i64 x.num] 55)).alloc (.cells #[.int .i64 y.rep,.int .i64 y.num] 55))):=(below_new w _).trans ((below_new _ _).mono (below_new w (.cells #[.int .i64 x.rep,.int .i64 x.num] 55)).size);unfold DC;obtain ⟨r,m,s,q⟩:=x;obtain ⟨r',m',s',q'⟩:=y;by_cases h1:r < r'
 ·have HF:Hid (ahead ⟨r,m,s,q⟩ ⟨r',m',s',q'⟩=true):=by show _=_;unfold ahead;rw [decide_eq_true h1];rfl
  go_enter Tryz.func85,Tryz.ntmps85;go_wp2;go_ret;exact ⟨ret_b HF.out,HB.out⟩
 ·by_cases h2:r=r'
  ·have HF:Hid (ahead ⟨r,m,s,q⟩ ⟨r',m',s',q'⟩=decide (m < m')):=by show _=_;unfold ahead;rw [decide_eq_false h1];simp [h2]
   have h2':(r == r')=true:=by simpa using h2
   clear h2;go_enter Tryz.func85,Tryz.ntmps85;go_wp2;go_ret;exact ⟨ret_b HF.out,HB.out⟩
  ·have HF:Hid (ahead ⟨r,m,s,q⟩ ⟨r',m',s',q'⟩=false):=by show _=_;unfold ahead;rw [decide_eq_false h1];simp [h2]
   have h2':(r == r')=false:=by simpa using h2
   clear h2;go_enter Tryz.func85,Tryz.ntmps85;go_wp2;go_ret;exact ⟨ret_b HF.out,HB.out⟩
theorem refEntries_any (ao:Option Addr) (n cap:Nat) (L:List En) (w:World) (hS:ESrc w ao n cap L):Calls Tryz.prog 48 #[.slice ao n cap] w fun e w'=>e = .returned (.bool (okN L n))/\Below w.heap.size w w':=by
 have HS:=hide hS;have hn:=hS.2.2.2.2;clear hS;go_enter Tryz.func48,Tryz.ntmps48;go_wp2_with fail;go_loopw [3] (fun i wr=>∃ k:Nat,k <= n/\i = .int .i64 k/\Hid (okN L k=true)/\Hid (Below w.heap.size w wr)) (fun i _=>n - (intOf i).toNat)
 case atStart=>exact ⟨0,Nat.zero_le _,rfl,rfl,Below.refl _ _⟩
 case round =>
  obtain ⟨k,hk,rfl,HK,HB⟩:=hrel
  rename World=>wr
  by_cases hlt:k < n
  ·obtain ⟨ad,rfl,A0⟩:=(HS.out.below HB.out).at k hlt;have HSr:=hide (HS.out.below HB.out);obtain ⟨e,He⟩:∃ e,Hid (L.getD k en0=e):=⟨_,rfl⟩;have hsk:=HS.out.sku k hlt;rw [He.out] at A0 hsk;have HA:=hide A0;have HSK:=hide hsk;clear A0 hsk;have Hlt:=hide hlt;by_cases hk0:k=0
   ·have hk1:decide (0 < k)=false:=by rw [decide_eq_false_iff_not];omega
    have HK0:=hide hk0
    have hat:Hid (okAt L k=(ceE e == 0)):=by show _=_;unfold okAt;rw [He.out,hk0];simp
    clear hk0;go_wp2_with fail;refine wp_region_held_drew (S:=fun v=>(ld28 (.pointer (some (ad.add (k * 4))))).run Tryz.prog v = .ok (EV e) v) (by kernel_rfl) (run_ld28 (HA.out.on (below_drew1 wr))) (fun hHeld=>?_);refine wU 0 ?_;refine wU 1 ?_;refine wU 2 ?_;refine wU 3 ?_;refine wpAnyH_ready (rs:=[4]) (by kernel_rfl) (by simp) (.cons rfl (fun K hK=>?_) .nil);go_simp;go_wp2_with fail;refine (refEntry_any e _ HSK.out).mono ?_;rintro x w2 ⟨rfl,b2⟩;have hB2:Below wr.heap.size wr w2:=(below_drew1 wr).trans b2;have HB2:=hide hB2;refine hK.out _ _ (run_ld28 (HA.out.on (hB2))) (fun hHeld=>?_);clear hK K b2
    cases hc:(ceE e == 0) with
    | false =>
     have HN:Hid (okN L n=false):=okN_no L k n Hlt.out (by rw [hat.out,hc]);clear hc;refine wU 5 ?_;refine wU 6 ?_;refine wV 7 ?_;refine wV 8 ?_;refine wV 9 ?_;refine wV 10 ?_;refine wV 11 ?_;refine wV 12 ?_;refine wV 13 ?_;refine wV 14 ?_;refine wV 15 ?_;refine wV 16 ?_;refine wV 17 ?_;refine wV 18 ?_;refine wV 19 ?_;refine wV 20 ?_;refine wV 21 ?_;refine wV 22 ?_;refine wV 23 ?_;refine wU 24 ?_;refine wpAnyH_done (by kernel_rfl) ?_ _;clear hHeld;go_wp2_with fail;go_ret;exact ⟨by rw [HN.out];rfl,HB.out.trans (HB2.out.mono HB.out.size)⟩
    | true =>
     have HC:=hide hc;clear hc;refine wU 5 ?_;refine wU 6 ?_;refine wU 7 ?_;refine wU 8 ?_;refine wU 9 ?_;refine wV 10 ?_;refine wV 11 ?_;refine wV 12 ?_;refine wV 13 ?_;refine wV 14 ?_;refine wV 15 ?_;refine wV 16 ?_;refine wV 17 ?_;refine wV 18 ?_;refine wV 19 ?_;refine wV 20 ?_;refine wV 21 ?_;refine wV 22 ?_;refine wU 23 ?_;refine wU 24 ?_;refine wpAnyH_done (by kernel_rfl) ?_ _;clear hHeld
     have HN:Hid (okN L (k+1)=true):=by show _=_;rw [okN_succ,HK.out,hat.out,HC.out];rfl
     go_wp2_with fail;go_roundw
     case rel=>exact ⟨k+1,by omega,by simp,HN,HB.out.trans (HB2.out.mono HB.out.size)⟩
     case measure=>simp [intOf];omega
   ·obtain ⟨j,Hj⟩:∃ j,Hid (k=j+1):=⟨k - 1,(show k=k - 1+1 by omega)⟩
    have hjn:j < n:=by have:=Hj.out;omega
    have hwj:IntKind.i64.wrap ((k:Int) - 1)=(j:Int):=by rw [IntKind.wrap_i64];have:=Hj.out;omega
    have hk1:decide (0 < k)=true:=by rw [decide_eq_true_iff];omega
    obtain ⟨ad',e',Aj⟩:=HSr.out.at j hjn;obtain rfl:=Option.some.inj e';obtain ⟨q,Hq⟩:∃ q,Hid (L.getD j en0=q):=⟨_,rfl⟩;rw [Hq.out] at Aj;have HAj:=hide Aj
    have hat:Hid (okAt L k=((ceE e == 0) && ahead q e)):=by show _=_;unfold okAt;rw [He.out,show k - 1=j by have:=Hj.out;omega,Hq.out,decide_eq_false hk0,Bool.false_or]
    clear Aj e' hk0;go_wp2_with fail;refine wp_region_held_drew (S:=fun v=>(ld28 (.pointer (some (ad.add (k * 4))))).run Tryz.prog v = .ok (EV e) v/\(ld26 (.pointer (some (ad.add (k * 4))))).run Tryz.prog v = .ok (.agg (DC e)) v/\(ld26 (.pointer (some (ad.add (j * 4))))).run Tryz.prog v = .ok (.agg (DC q)) v) (by kernel_rfl) (⟨run_ld28 (HA.out.on (below_drew1 wr)),run_ld26 (HA.out.on (below_drew1 wr)),run_ld26 (HAj.out.on (below_drew1 wr))⟩) (fun hHeld=>?_);refine wU 0 ?_;refine wU 1 ?_;refine wU 2 ?_;refine wU 3 ?_;refine wpAnyH_ready (rs:=[4]) (by kernel_rfl) (by simp) (.cons rfl (fun K hK=>?_) .nil);go_simp;go_wp2_with fail;refine (refEntry_any e _ HSK.out).mono ?_;rintro x w2 ⟨rfl,b2⟩;have hB2:Below wr.heap.size wr w2:=(below_drew1 wr).trans b2;have HB2:=hide hB2;refine hK.out _ _ (⟨run_ld28 (HA.out.on (hB2)),run_ld26 (HA.out.on (hB2)),run_ld26 (HAj.out.on (hB2))⟩) (fun hHeld=>?_)
    clear hK K b2
    cases hc:(ceE e == 0) with
    | false =>
     have HN:Hid (okN L n=false):=okN_no L k n Hlt.out (by rw [hat.out,hc];rfl);clear hc;refine wU 5 ?_;refine wU 6 ?_;refine wV 7 ?_;refine wV 8 ?_;refine wV 9 ?_;refine wV 10 ?_;refine wV 11 ?_;refine wV 12 ?_;refine wV 13 ?_;refine wV 14 ?_;refine wV 15 ?_;refine wV 16 ?_;refine wV 17 ?_;refine wV 18 ?_;refine wV 19 ?_;refine wV 20 ?_;refine wV 21 ?_;refine wV 22 ?_;refine wV 23 ?_;refine wU 24 ?_;refine wpAnyH_done (by kernel_rfl) ?_ _;clear hHeld;go_wp2_with fail;go_ret;exact ⟨by rw [HN.out];rfl,HB.out.trans (HB2.out.mono HB.out.size)⟩
    | true =>
     have HC:=hide hc;clear hc;refine wU 5 ?_;refine wU 6 ?_;refine wU 7 ?_;refine wU 8 ?_;refine wU 9 ?_;refine wU 10 ?_;refine wU 11 ?_;refine wU 12 ?_;refine wU 13 ?_;refine wU 14 ?_;refine wU 15 ?_;refine wU 16 ?_;refine wU 17 ?_;refine wU 18 ?_;refine wU 19 ?_;refine wU 20 ?_;refine wpAnyH_ready (rs:=[21]) (by kernel_rfl) (by simp) (.cons rfl (fun K hK=>?_) .nil);go_simp;go_wp2_with fail;refine (refBefore_any q e _).mono ?_;rintro x w3 ⟨rfl,b3⟩;have hB3:Below wr.heap.size wr w3:=HB2.out.trans (b3.mono HB2.out.size);have HB3:=hide hB3;refine hK.out _ _ (⟨run_ld28 (HA.out.on (hB3)),run_ld26 (HA.out.on (hB3)),run_ld26 (HAj.out.on (hB3))⟩) (fun hHeld=>?_);clear hK K b3 hB2
     cases ha:ahead q e with
     | false =>
      have HN:Hid (okN L n=false):=okN_no L k n Hlt.out (by rw [hat.out,HC.out,ha];rfl);clear ha;refine wU 22 ?_;refine wU 23 ?_;refine wU 24 ?_;refine wpAnyH_done (by kernel_rfl) ?_ _;clear hHeld;go_wp2_with fail;go_ret;exact ⟨by rw [HN.out];rfl,HB.out.trans (HB3.out.mono HB.out.size)⟩
     | true =>
      have HN:Hid (okN L (k+1)=true):=by show _=_;rw [okN_succ,HK.out,hat.out,HC.out,ha];rfl
      clear ha;refine wU 22 ?_;refine wU 23 ?_;refine wU 24 ?_;refine wpAnyH_done (by kernel_rfl) ?_ _;clear hHeld;go_wp2_with fail;go_roundw
      case rel=>exact ⟨k+1,by omega,by simp,HN,HB.out.trans (HB3.out.mono HB.out.size)⟩
      case measure=>simp [intOf];omega
  ·obtain rfl:k=n:=by omega
   go_wp2_with fail;go_ret;exact ⟨by rw [HK.out];rfl,HB.out⟩
end Go.Proofs.YtjeilkenjdnafaaGreat.K
