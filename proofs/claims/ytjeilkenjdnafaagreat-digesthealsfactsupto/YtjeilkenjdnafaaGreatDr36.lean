/- EJd GEr -/
import Derived.Test.YtjeilkenjdnafaaGreatTk
import Derived.Test.YtjeilkenjdnafaaGreatDr35
import Derived.Test.YtjeilkenjdnafaaGreatDr33
import Derived.Test.YtjeilkenjdnafaaGreatDr18
import Derived.Test.YtjeilkenjdnafaaGreatDr15
import Derived.Test.YtjeilkenjdnafaaGreatDr00
set_option maxRecDepth 100000
set_option maxHeartbeats 3200000
namespace Go.Proofs.YtjeilkenjdnafaaGreat
open Go.RowKit
attribute [local go_sem ↓] ldP_eq stP_eq ldD_eq stD_eq K.ld28_eq K.st28_eq
attribute [local go_sem] cells_PV PC_size
def dsB (s:ByteArray) (r:Int) (e:K.En):Bool:=(decide (s.size=0) || (e.sku.toList == s.toList)) && (decide (r < 0) || (e.rep == r))
def smB (s:ByteArray) (r:Int) (e:K.En):Bool:=(e.sku.toList == s.toList) && (decide (r < 0) || (e.rep == r))
end Go.Proofs.YtjeilkenjdnafaaGreat
namespace Go.Proofs.YtjeilkenjdnafaaGreat.K
open Go.RowKit
attribute [local go_sem ↓] ld28_eq st28_eq ld26_eq
attribute [local go_sem] zero_EC cells_EV
def isD (x:En):Bool:=(isR x.rep && decide (1 <= x.num)) && decide (x.num <= 1000000000)
theorem ret_b {a b:Bool} (h:a=b):Ending.returned (.bool b) = .returned (.bool a):=by rw [h]
theorem refIsDot_any (x:En) (w:World):Calls Tryz.prog 55 #[.agg (DC x)] w fun e w'=>e = .returned (.bool (isD x))/\Below w.heap.size w w':=by
 have HB:=hide (below_new w (.cells #[.int .i64 x.rep,.int .i64 x.num] 55));unfold DC;obtain ⟨r,m,s,q⟩:=x;by_cases h1:0 <= r
 ·by_cases h2:r < 16
  ·by_cases h3:1 <= m
   ·have HF:Hid (isD ⟨r,m,s,q⟩=decide (m <= 1000000000)):=by show _=_;unfold isD isR;simp [h1,h2,h3]
    go_enter Tryz.func55,Tryz.ntmps55;go_wp2;go_ret;exact ⟨ret_b HF.out,HB.out⟩
   ·have HF:Hid (isD ⟨r,m,s,q⟩=false):=by show _=_;unfold isD isR;simp [h3]
    go_enter Tryz.func55,Tryz.ntmps55;go_wp2;go_ret;exact ⟨ret_b HF.out,HB.out⟩
  ·have HF:Hid (isD ⟨r,m,s,q⟩=false):=by show _=_;unfold isD isR;simp [h2]
   go_enter Tryz.func55,Tryz.ntmps55;go_wp2;go_ret;exact ⟨ret_b HF.out,HB.out⟩
 ·have HF:Hid (isD ⟨r,m,s,q⟩=false):=by show _=_;unfold isD isR;simp [h1]
  go_enter Tryz.func55,Tryz.ntmps55;go_wp2;go_ret;exact ⟨ret_b HF.out,HB.out⟩
theorem ceE_zero (e:En):(ceE e == 0)=(((isD e && good e.sku.data.toList) && decide (1 <= e.qty)) && decide (e.qty <= 1000000)):=by
 unfold ceE isD;by_cases h1:isR e.rep=false
 ·rw [if_pos h1,h1];simp
 ·have h1':isR e.rep=true:=by simpa using h1
  rw [if_neg h1,h1'];by_cases h2:e.num < 1∨1000000000 < e.num
  ·rw [if_pos h2];rcases h2 with h2 | h2
   ·simp [show ¬ 1 <= e.num by omega]
   ·simp [show ¬ e.num <= 1000000000 by omega]
  ·rw [if_neg h2];simp only [show decide (1 <= e.num)=true from decide_eq_true (by omega),show decide (e.num <= 1000000000)=true from decide_eq_true (by omega),Bool.and_true,Bool.true_and];by_cases h3:good e.sku.data.toList=false
   ·rw [if_pos h3,h3];simp
   ·have h3':good e.sku.data.toList=true:=by simpa using h3
    rw [if_neg h3,h3'];by_cases h4:e.qty < 1∨1000000 < e.qty
    ·rw [if_pos h4];rcases h4 with h4 | h4
     ·simp [show ¬ 1 <= e.qty by omega]
     ·simp [show ¬ e.qty <= 1000000 by omega]
    ·rw [if_neg h4];simp [show 1 <= e.qty by omega,show e.qty <= 1000000 by omega]
theorem refEntry_any (e:En) (w:World) (hs:e.sku.size <= maxLen):Calls Tryz.prog 84 #[EV e] w fun x w'=>x = .returned (.bool (ceE e == 0))/\Below w.heap.size w w':=by
 rw [ceE_zero e];have b1:=below_new w (.cells (EC e) 57);have hx:=heap_alloc_new w (.cells (EC e) 57);obtain ⟨wk,hwk⟩:∃ wk,w.alloc (.cells (EC e) 57)=wk:=⟨_,rfl⟩;obtain ⟨G,hG⟩:∃ G,w.heap.size=G:=⟨_,rfl⟩;rw [hwk] at b1 hx;rw [hG] at hx
 have HA:Hid (EnAt wk ⟨G,0,none⟩ e):=by
  refine ⟨?_,?_,?_,?_⟩ <;> simp [Addr.add,World.cell?,hx,EC]
 have HB:=hide b1;clear b1 hx;have l1:=run_ld26 HA.out;go_enter Tryz.func84,Tryz.ntmps84;go_wp2_with fail;clear hwk hG;refine (refIsDot_any e _).mono ?_;rintro x w2 ⟨rfl,b2⟩;have HB2:=wTr HB b2;have A2:=HA.out.on b2;have c2:w2.cell? ⟨G,2,none⟩=some (.string e.sku):=A2.c2;have c3:w2.cell? ⟨G,3,none⟩=some (.int .i64 e.qty):=A2.c3;clear b2 A2 l1
 cases hd:isD e with
 | false =>
  have HD:=hide hd;clear hd;go_wp2_with fail;go_ret;exact ⟨ret_b (by rw [HD.out];rfl),HB2.out⟩
 | true =>
  have HD:=hide hd;clear hd;go_wp2_with fail;refine (refGood_any e.sku _ hs).mono ?_;rintro x w' ⟨rfl,rfl⟩
  cases hg:good e.sku.data.toList with
  | false =>
   have HG:=hide hg;clear hg;go_wp2_with fail;go_ret;exact ⟨ret_b (by rw [HD.out,HG.out];rfl),HB2.out⟩
  | true =>
   have HG:=hide hg;clear hg;by_cases h1:1 <= e.qty
   ·go_wp2_with fail;go_ret;exact ⟨ret_b (by rw [HD.out,HG.out,decide_eq_true h1];rfl),HB2.out⟩
   ·go_wp2_with fail;go_ret;exact ⟨ret_b (by rw [HD.out,HG.out,decide_eq_false (show ¬ 1 <= e.qty by omega)];rfl),HB2.out⟩
theorem refBefore_any (x y:En) (w:World):Calls Tryz.prog 85 #[.agg (DC x),.agg (DC y)] w fun e w'=>e = .returned (.bool (ahead x y))/\Below w.heap.size w w':=by
 have HB:Hid (Below w.heap.size w ((w.alloc (.cells #[.int .i64 x.rep,.int .i64 x.num] 55)).alloc (.cells #[.int .i64 y.rep,.int .i64 y.num] 55))):=(below_new w _).trans ((below_new _ _).mono (below_new w (.cells #[.int .i64 x.rep,.int .i64 x.num] 55)).size);unfold DC;obtain ⟨r,m,s,q⟩:=x;obtain ⟨r',m',s',q'⟩:=y;by_cases h1:r < r'
 ·have HF:Hid (ahead ⟨r,m,s,q⟩ ⟨r',m',s',q'⟩=true):=by show _=_;unfold ahead;rw [decide_eq_true h1];rfl
  go_enter Tryz.func85,Tryz.ntmps85;go_wp2;go_ret;exact ⟨ret_b HF.out,HB.out⟩
 ·by_cases h2:r=r'
  ·have HF:Hid (ahead ⟨r,m,s,q⟩ ⟨r',m',s',q'⟩=decide (m < m')):=by show _=_;unfold ahead;rw [decide_eq_false h1];simp [h2]
   have h2':(r == r')=true:=by simpa using h2
   clear h2;go_enter Tryz.func85,Tryz.ntmps85;go_wp2;go_ret;exact ⟨ret_b HF.out,HB.out⟩
  ·have HF:Hid (ahead ⟨r,m,s,q⟩ ⟨r',m',s',q'⟩=false):=by show _=_;unfold ahead;rw [decide_eq_false h1];simp [h2]
   have h2':(r == r')=false:=by simpa using h2
   clear h2;go_enter Tryz.func85,Tryz.ntmps85;go_wp2;go_ret;exact ⟨ret_b HF.out,HB.out⟩
theorem refEntries_any (ao:Option Addr) (n cap:Nat) (L:List En) (w:World) (hS:ESrc w ao n cap L):Calls Tryz.prog 48 #[.slice ao n cap] w fun e w'=>e = .returned (.bool (okN L n))/\Below w.heap.size w w':=by
 have HS:=hide hS;have hn:=hS.2.2.2.2;clear hS;go_enter Tryz.func48,Tryz.ntmps48;go_wp2_with fail;go_loopw [3] (fun i wr=>∃ k:Nat,k <= n/\i = .int .i64 k/\Hid (okN L k=true)/\Hid (Below w.heap.size w wr)) (fun i _=>n - (intOf i).toNat)
 case atStart=>exact ⟨0,Nat.zero_le _,rfl,rfl,Below.refl _ _⟩
 case round =>
  obtain ⟨k,hk,rfl,HK,HB⟩:=hrel
  rename World=>wr
  by_cases hlt:k < n
  ·obtain ⟨ad,rfl,A0⟩:=(HS.out.below HB.out).at k hlt;have HSr:=hide (HS.out.below HB.out);obtain ⟨e,He⟩:∃ e,Hid (L.getD k en0=e):=⟨_,rfl⟩;have hsk:=HS.out.sku k hlt;rw [He.out] at A0 hsk;have HA:=hide A0;have HSK:=hide hsk;clear A0 hsk;have Hlt:=hide hlt;by_cases hk0:k=0
   ·have hk1:decide (0 < k)=false:=by rw [decide_eq_false_iff_not];omega
    have HK0:=hide hk0
    have hat:Hid (okAt L k=(ceE e == 0)):=by show _=_;unfold okAt;rw [He.out,hk0];simp
    clear hk0;go_wp2_with fail;refine wp_region_held_drew (S:=fun v=>(ld28 (.pointer (some (ad.add (k * 4))))).run Tryz.prog v = .ok (EV e) v) (by kernel_rfl) (run_ld28 (HA.out.on (below_drew1 wr))) (fun hHeld=>?_);refine wU 0 ?_;refine wU 1 ?_;refine wU 2 ?_;refine wU 3 ?_;refine wpAnyH_ready (rs:=[4]) (by kernel_rfl) (by simp) (.cons rfl (fun K hK=>?_) .nil);go_simp;go_wp2_with fail;refine (refEntry_any e _ HSK.out).mono ?_;rintro x w2 ⟨rfl,b2⟩;have hB2:Below wr.heap.size wr w2:=(below_drew1 wr).trans b2;have HB2:=hide hB2;refine hK.out _ _ (run_ld28 (HA.out.on (hB2))) (fun hHeld=>?_);clear hK K b2
    cases hc:(ceE e == 0) with
    | false =>
     have HN:Hid (okN L n=false):=okN_no L k n Hlt.out (by rw [hat.out,hc]);clear hc;refine wU 5 ?_;refine wU 6 ?_;refine wV 7 ?_;refine wV 8 ?_;refine wV 9 ?_;refine wV 10 ?_;refine wV 11 ?_;refine wV 12 ?_;refine wV 13 ?_;refine wV 14 ?_;refine wV 15 ?_;refine wV 16 ?_;refine wV 17 ?_;refine wV 18 ?_;refine wV 19 ?_;refine wV 20 ?_;refine wV 21 ?_;refine wV 22 ?_;refine wV 23 ?_;refine wU 24 ?_;refine wpAnyH_done (by kernel_rfl) ?_ _;clear hHeld;go_wp2_with fail;go_ret;exact ⟨by rw [HN.out];rfl,HB.out.trans (HB2.out.mono HB.out.size)⟩
    | true =>
     have HC:=hide hc;clear hc;refine wU 5 ?_;refine wU 6 ?_;refine wU 7 ?_;refine wU 8 ?_;refine wU 9 ?_;refine wV 10 ?_;refine wV 11 ?_;refine wV 12 ?_;refine wV 13 ?_;refine wV 14 ?_;refine wV 15 ?_;refine wV 16 ?_;refine wV 17 ?_;refine wV 18 ?_;refine wV 19 ?_;refine wV 20 ?_;refine wV 21 ?_;refine wV 22 ?_;refine wU 23 ?_;refine wU 24 ?_;refine wpAnyH_done (by kernel_rfl) ?_ _;clear hHeld
     have HN:Hid (okN L (k+1)=true):=by show _=_;rw [okN_succ,HK.out,hat.out,HC.out];rfl
     go_wp2_with fail;go_roundw
     case rel=>exact ⟨k+1,by omega,by simp,HN,HB.out.trans (HB2.out.mono HB.out.size)⟩
     case measure=>simp [intOf];omega
   ·obtain ⟨j,Hj⟩:∃ j,Hid (k=j+1):=⟨k - 1,(show k=k - 1+1 by omega)⟩
    have hjn:j < n:=by have:=Hj.out;omega
    have hwj:IntKind.i64.wrap ((k:Int) - 1)=(j:Int):=by rw [IntKind.wrap_i64];have:=Hj.out;omega
    have hk1:decide (0 < k)=true:=by rw [decide_eq_true_iff];omega
    obtain ⟨ad',e',Aj⟩:=HSr.out.at j hjn;obtain rfl:=Option.some.inj e';obtain ⟨q,Hq⟩:∃ q,Hid (L.getD j en0=q):=⟨_,rfl⟩;rw [Hq.out] at Aj;have HAj:=hide Aj
    have hat:Hid (okAt L k=((ceE e == 0) && ahead q e)):=by show _=_;unfold okAt;rw [He.out,show k - 1=j by have:=Hj.out;omega,Hq.out,decide_eq_false hk0,Bool.false_or]
    clear Aj e' hk0;go_wp2_with fail;refine wp_region_held_drew (S:=fun v=>(ld28 (.pointer (some (ad.add (k * 4))))).run Tryz.prog v = .ok (EV e) v/\(ld26 (.pointer (some (ad.add (k * 4))))).run Tryz.prog v = .ok (.agg (DC e)) v/\(ld26 (.pointer (some (ad.add (j * 4))))).run Tryz.prog v = .ok (.agg (DC q)) v) (by kernel_rfl) (⟨run_ld28 (HA.out.on (below_drew1 wr)),run_ld26 (HA.out.on (below_drew1 wr)),run_ld26 (HAj.out.on (below_drew1 wr))⟩) (fun hHeld=>?_);refine wU 0 ?_;refine wU 1 ?_;refine wU 2 ?_;refine wU 3 ?_;refine wpAnyH_ready (rs:=[4]) (by kernel_rfl) (by simp) (.cons rfl (fun K hK=>?_) .nil);go_simp;go_wp2_with fail;refine (refEntry_any e _ HSK.out).mono ?_;rintro x w2 ⟨rfl,b2⟩;have hB2:Below wr.heap.size wr w2:=(below_drew1 wr).trans b2;have HB2:=hide hB2;refine hK.out _ _ (⟨run_ld28 (HA.out.on (hB2)),run_ld26 (HA.out.on (hB2)),run_ld26 (HAj.out.on (hB2))⟩) (fun hHeld=>?_)
    clear hK K b2
    cases hc:(ceE e == 0) with
    | false =>
     have HN:Hid (okN L n=false):=okN_no L k n Hlt.out (by rw [hat.out,hc];rfl);clear hc;refine wU 5 ?_;refine wU 6 ?_;refine wV 7 ?_;refine wV 8 ?_;refine wV 9 ?_;refine wV 10 ?_;refine wV 11 ?_;refine wV 12 ?_;refine wV 13 ?_;refine wV 14 ?_;refine wV 15 ?_;refine wV 16 ?_;refine wV 17 ?_;refine wV 18 ?_;refine wV 19 ?_;refine wV 20 ?_;refine wV 21 ?_;refine wV 22 ?_;refine wV 23 ?_;refine wU 24 ?_;refine wpAnyH_done (by kernel_rfl) ?_ _;clear hHeld;go_wp2_with fail;go_ret;exact ⟨by rw [HN.out];rfl,HB.out.trans (HB2.out.mono HB.out.size)⟩
    | true =>
     have HC:=hide hc;clear hc;refine wU 5 ?_;refine wU 6 ?_;refine wU 7 ?_;refine wU 8 ?_;refine wU 9 ?_;refine wU 10 ?_;refine wU 11 ?_;refine wU 12 ?_;refine wU 13 ?_;refine wU 14 ?_;refine wU 15 ?_;refine wU 16 ?_;refine wU 17 ?_;refine wU 18 ?_;refine wU 19 ?_;refine wU 20 ?_;refine wpAnyH_ready (rs:=[21]) (by kernel_rfl) (by simp) (.cons rfl (fun K hK=>?_) .nil);go_simp;go_wp2_with fail;refine (refBefore_any q e _).mono ?_;rintro x w3 ⟨rfl,b3⟩;have hB3:Below wr.heap.size wr w3:=HB2.out.trans (b3.mono HB2.out.size);have HB3:=hide hB3;refine hK.out _ _ (⟨run_ld28 (HA.out.on (hB3)),run_ld26 (HA.out.on (hB3)),run_ld26 (HAj.out.on (hB3))⟩) (fun hHeld=>?_);clear hK K b3 hB2
     cases ha:ahead q e with
     | false =>
      have HN:Hid (okN L n=false):=okN_no L k n Hlt.out (by rw [hat.out,HC.out,ha];rfl);clear ha;refine wU 22 ?_;refine wU 23 ?_;refine wU 24 ?_;refine wpAnyH_done (by kernel_rfl) ?_ _;clear hHeld;go_wp2_with fail;go_ret;exact ⟨by rw [HN.out];rfl,HB.out.trans (HB3.out.mono HB.out.size)⟩
     | true =>
      have HN:Hid (okN L (k+1)=true):=by show _=_;rw [okN_succ,HK.out,hat.out,HC.out,ha];rfl
      clear ha;refine wU 22 ?_;refine wU 23 ?_;refine wU 24 ?_;refine wpAnyH_done (by kernel_rfl) ?_ _;clear hHeld;go_wp2_with fail;go_roundw
      case rel=>exact ⟨k+1,by omega,by simp,HN,HB.out.trans (HB3.out.mono HB.out.size)⟩
      case measure=>simp [intOf];omega
  ·obtain rfl:k=n:=by omega
   go_wp2_with fail;go_ret;exact ⟨by rw [HK.out];rfl,HB.out⟩
end Go.Proofs.YtjeilkenjdnafaaGreat.K
