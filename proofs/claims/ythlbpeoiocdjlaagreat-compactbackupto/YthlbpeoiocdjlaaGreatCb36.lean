import Derived.Test.YthlbpeoiocdjlaaGreatTk
import Derived.Test.YthlbpeoiocdjlaaGreatCb35
import Derived.Deep.CutRange
import Derived.Test.YthlbpeoiocdjlaaGreatCb34
set_option maxRecDepth 100000
set_option maxHeartbeats 3200000
namespace Go.Proofs.YthlbpeoiocdjlaaGreat.K
section
open Go.RowKit
attribute [local go_sem ↓] ld28_eq st28_eq ld26_eq
attribute [local go_sem] zero_EC cells_EV
theorem refAhead_any (x y:En) (w:World):Calls Tryz.prog 51 #[.agg (DC x),.agg (DC y)] w fun e w'=>e = .returned (.bool (ahead x y))/\Below w.heap.size w w':=by
 have HB:Hid (Below w.heap.size w ((w.alloc (.cells #[.int .i64 x.rep,.int .i64 x.num] 55)).alloc (.cells #[.int .i64 y.rep,.int .i64 y.num] 55))):=(below_new w _).trans ((below_new _ _).mono (below_new w (.cells #[.int .i64 x.rep,.int .i64 x.num] 55)).size);unfold DC;obtain ⟨r,m,s,q⟩:=x;obtain ⟨r',m',s',q'⟩:=y;by_cases h1:r < r'
 ·have HF:Hid (ahead ⟨r,m,s,q⟩ ⟨r',m',s',q'⟩=true):=by show _=_;unfold ahead;rw [decide_eq_true h1];rfl
  go_enter Tryz.func51,Tryz.ntmps51;go_wp2;go_ret;exact ⟨ret_b HF.out,HB.out⟩
 ·by_cases h2:r=r'
  ·have HF:Hid (ahead ⟨r,m,s,q⟩ ⟨r',m',s',q'⟩=decide (m < m')):=by show _=_;unfold ahead;rw [decide_eq_false h1];simp [h2]
   have h2':(r == r')=true:=by simpa using h2
   clear h2;go_enter Tryz.func51,Tryz.ntmps51;go_wp2;go_ret;exact ⟨ret_b HF.out,HB.out⟩
  ·have HF:Hid (ahead ⟨r,m,s,q⟩ ⟨r',m',s',q'⟩=false):=by show _=_;unfold ahead;rw [decide_eq_false h1];simp [h2]
   have h2':(r == r')=false:=by simpa using h2
   clear h2;go_enter Tryz.func51,Tryz.ntmps51;go_wp2;go_ret;exact ⟨ret_b HF.out,HB.out⟩
theorem addr_en {w:World} {e:En} {p:Addr} (h:EnAt w p e):p=⟨p.block,p.off,none⟩:=by
 have hs:=World.cell?_spot h.c0;obtain ⟨b,o,k⟩:=p;obtain rfl:k=none:=hs;rfl
theorem en_fields {w:World} {e:En} {p:Addr} (h:EnAt w p e):w.cell? ⟨p.block,p.off+2,none⟩=some (.string e.sku)/\w.cell? ⟨p.block,p.off+3,none⟩=some (.int .i64 e.qty):=by
 have hs:=World.cell?_spot h.c0;have c2:=h.c2;have c3:=h.c3;obtain ⟨b,o,k⟩:=p;obtain rfl:k=none:=hs;rw [Addr.add_lit] at c2 c3;exact ⟨c2,c3⟩
theorem refEnts07_any (ao:Option Addr) (n cap:Nat) (L:List En) (w:World) (hS:ESrc w ao n cap L):Calls Tryz.prog 22 #[.slice ao n cap] w fun e w'=>e = .returned (.bool (okN L n))/\Below w.heap.size w w':=by
 have HS:=hide hS;have hn:=hS.2.2.2.2;clear hS;go_enter Tryz.func22,Tryz.ntmps22;go_wp2_with fail;go_loopw [3] (fun i wr=>∃ k:Nat,k <= n/\i = .int .i64 k/\Hid (okN L k=true)/\Hid (Below w.heap.size w wr)) (fun i _=>n - (intOf i).toNat)
 case atStart=>exact ⟨0,Nat.zero_le _,rfl,rfl,Below.refl _ _⟩
 case round =>
  obtain ⟨k,hk,rfl,HK,HB⟩:=hrel
  rename World=>wr
  by_cases hlt:k < n
  ·have hlti:(k:Int) < (n:Int):=by omega
   obtain ⟨ad,hao,A0⟩:=(HS.out.below HB.out).at k hlt;subst hao;have HSr:=hide (HS.out.below HB.out);obtain ⟨e,He⟩:∃ e,Hid (L.getD k en0=e):=⟨_,rfl⟩;have hsk:=HS.out.sku k hlt;rw [He.out] at A0 hsk;have HA:=hide A0;have Hlt:=hide hlt;have HAt:Hid (okAt L k=false -> okN L n=false):=fun h=>okN_no L k n Hlt.out h
   have HOk:Hid ((ceE e == 0)=false -> okAt L k=false):=fun h=>by unfold okAt;rw [He.out,h];rfl
   have l0:=run_ld26 A0
   have l0':(ld26 (.pointer (some ⟨(ad.add (k * 4)).block,(ad.add (k * 4)).off,none⟩))).run Tryz.prog wr = .ok (.agg (DC e)) wr:=by
    have h:=run_ld26 A0;rwa [addr_en A0] at h
   clear A0;go_wp2_with fail;clear l0 l0';refine (refIsDot_any e _).mono ?_;rintro x w1 ⟨rfl,b1⟩;have HB1:=wTr HB b1;have HA1:=hide (HA.out.on b1);have HSr1:=hide (HSr.out.below b1);obtain ⟨f2,f3⟩:=en_fields HA1.out;have g2:=HA1.out.c2;have g3:=HA1.out.c3;clear b1 HA HSr
   cases hd:isD e with
   | false =>
    have HN:Hid (okN L n=false):=HAt.out (HOk.out (by rw [ceE_zero,hd];rfl));clear hd;go_wp2_with fail;go_ret;exact ⟨by rw [HN.out];rfl,HB1.out⟩
   | true =>
    have HD:=hide hd;clear hd;go_wp2_with fail;refine (refGood_any e.sku _ hsk).mono ?_;rintro x w' ⟨rfl,rfl⟩
    cases hg:good e.sku.data.toList with
    | false =>
     have HN:Hid (okN L n=false):=HAt.out (HOk.out (by rw [ceE_zero,HD.out,hg];rfl));clear hg;go_wp2_with fail;go_ret;exact ⟨by rw [HN.out];rfl,HB1.out⟩
    | true =>
     have HG:=hide hg;clear hg;by_cases h1:e.qty < 1
     ·have HN:Hid (okN L n=false):=HAt.out (HOk.out (by rw [ceE_zero,HD.out,HG.out,decide_eq_false (show ¬ 1 <= e.qty by omega)];rfl));go_wp2_with fail;go_ret;exact ⟨by rw [HN.out];rfl,HB1.out⟩
     ·by_cases h2:1000000 < e.qty
      ·have HN:Hid (okN L n=false):=HAt.out (HOk.out (by rw [ceE_zero,HD.out,HG.out,decide_eq_true (show 1 <= e.qty by omega),decide_eq_false (show ¬ e.qty <= 1000000 by omega)];rfl));go_wp2_with fail;go_ret;exact ⟨by rw [HN.out];rfl,HB1.out⟩
      ·have HC:Hid ((ceE e == 0)=true):=by show _=_;rw [ceE_zero,HD.out,HG.out,decide_eq_true (show 1 <= e.qty by omega),decide_eq_true (show e.qty <= 1000000 by omega)];rfl
       clear HOk;by_cases hk0:k=0
       ·have hk1:decide (0 < k)=false:=by rw [decide_eq_false_iff_not];omega
        have HK0:=hide hk0
        have hat:Hid (okAt L k=(ceE e == 0)):=by show _=_;unfold okAt;rw [He.out,hk0];simp
        clear hk0;go_upto_region 6 with fail;refine wp_region_held_drew (S:=fun _=>True) (by kernel_rfl) (trivial) (fun hHeld=>?_);refine wU 0 ?_;refine wU 1 ?_;refine wU 2 ?_;refine wV 3 ?_;refine wV 4 ?_;refine wV 5 ?_;refine wV 6 ?_;refine wV 7 ?_;refine wV 8 ?_;refine wV 9 ?_;refine wV 10 ?_;refine wV 11 ?_;refine wV 12 ?_;refine wV 13 ?_;refine wV 14 ?_;refine wV 15 ?_;refine wU 16 ?_;refine wpAnyH_done (by kernel_rfl) ?_ _;clear hHeld
        have HN:Hid (okN L (k+1)=true):=by show _=_;rw [okN_succ,HK.out,hat.out,HC.out];rfl
        go_wp2_with fail;go_roundw
        case rel=>exact ⟨k+1,by omega,by simp,HN,HB1.out.trans ((below_drew1 w').mono HB1.out.size)⟩
        case measure=>simp [intOf];omega
       ·obtain ⟨j,Hj⟩:∃ j,Hid (k=j+1):=⟨k - 1,(show k=k - 1+1 by omega)⟩
        have hjn:j < n:=by have:=Hj.out;omega
        have hwj:IntKind.i64.wrap ((k:Int) - 1)=(j:Int):=by rw [IntKind.wrap_i64];have:=Hj.out;omega
        have hk1:decide (0 < k)=true:=by rw [decide_eq_true_iff];omega
        obtain ⟨ad',e',Aj⟩:=HSr1.out.at j hjn;obtain rfl:=Option.some.inj e';obtain ⟨q,Hq⟩:∃ q,Hid (L.getD j en0=q):=⟨_,rfl⟩;rw [Hq.out] at Aj;have HAj:=hide Aj
        have hat:Hid (okAt L k=((ceE e == 0) && ahead q e)):=by show _=_;unfold okAt;rw [He.out,show k - 1=j by have:=Hj.out;omega,Hq.out,decide_eq_false hk0,Bool.false_or]
        clear Aj e' hk0;go_upto_region 6 with fail;refine wp_region_held_drew (S:=fun v=>(ld26 (.pointer (some (ad.add (k * 4))))).run Tryz.prog v = .ok (.agg (DC e)) v/\(ld26 (.pointer (some (ad.add (j * 4))))).run Tryz.prog v = .ok (.agg (DC q)) v) (by kernel_rfl) (⟨run_ld26 (HA1.out.on (below_drew1 w')),run_ld26 (HAj.out.on (below_drew1 w'))⟩) (fun hHeld=>?_);refine wU 0 ?_;refine wU 1 ?_;refine wU 2 ?_;refine wU 3 ?_;refine wU 4 ?_;refine wU 5 ?_;refine wU 6 ?_;refine wU 7 ?_;refine wU 8 ?_;refine wU 9 ?_;refine wU 10 ?_;refine wU 11 ?_;refine wU 12 ?_;refine wU 13 ?_;refine wpAnyH_ready (rs:=[14]) (by kernel_rfl) (by simp) (.cons rfl (fun K hK=>?_) .nil);go_simp;go_wp2_with fail;refine (refAhead_any q e _).mono ?_;rintro x w3 ⟨rfl,b3⟩;have hB3:Below w'.heap.size w' w3:=(below_drew1 w').trans b3;have HB3:=hide hB3;refine hK.out _ _ (⟨run_ld26 (HA1.out.on (hB3)),run_ld26 (HAj.out.on (hB3))⟩) (fun hHeld=>?_)
        clear hK K b3
        cases ha:ahead q e with
        | false =>
         have HN:Hid (okN L n=false):=HAt.out (by rw [hat.out,HC.out,ha];rfl);clear ha;refine wU 15 ?_;refine wU 16 ?_;refine wpAnyH_done (by kernel_rfl) ?_ _;clear hHeld;go_wp2_with fail;go_ret;exact ⟨by rw [HN.out];rfl,HB1.out.trans (HB3.out.mono HB1.out.size)⟩
        | true =>
         have HN:Hid (okN L (k+1)=true):=by show _=_;rw [okN_succ,HK.out,hat.out,HC.out,ha];rfl
         clear ha;refine wU 15 ?_;refine wU 16 ?_;refine wpAnyH_done (by kernel_rfl) ?_ _;clear hHeld;go_wp2_with fail;go_roundw
         case rel=>exact ⟨k+1,by omega,by simp,HN,HB1.out.trans (HB3.out.mono HB1.out.size)⟩
         case measure=>simp [intOf];omega
  ·obtain rfl:k=n:=by omega
   go_wp2_with fail;go_ret;exact ⟨by rw [HK.out];rfl,HB.out⟩
end
section
open Go.RowKit
attribute [local go_sem ↓] ld28_eq st28_eq ld26_eq run_eqD
def DBox (w:World) (g:Nat) (y:En):Prop:=w.heap[g]? = some (.cells (DC y) 55 (0,0))
theorem DBox.lt {w:World} {g:Nat} {y:En} (h:DBox w g y):g < w.heap.size:=(Array.getElem?_eq_some_iff.1 h).1
theorem DBox.below {w w':World} {g:Nat} {y:En} (h:DBox w g y) (hb:Below w.heap.size w w'):DBox w' g y:=(hb.block g h.lt).trans h
theorem DBox_new (w:World) (y:En):DBox (w.alloc (.cells (DC y) 55)) w.heap.size y:=by unfold DBox;rw [heap_alloc_new]
theorem run_ldb {w:World} {g:Nat} {y:En} (h:DBox w g y):(ld26 (.pointer (some ⟨g,0,none⟩))).run Tryz.prog w = .ok (.agg (DC y)) w:=by
 unfold DBox at h
 have hl:=run_loadCells_list (P:=Tryz.prog) (w:=w) ⟨g,0,none⟩ (DC y).toList (fun j v hv=>by
  match j,hv with
  | 0,hv=>cases hv;rw [add_zero];simp [World.cell?,h,DC]
  | 1,hv=>cases hv;rw [Addr.add_lit];simp [World.cell?,h,DC]
  | j+2,hv=>simp [DC] at hv)
 unfold ld26;simp only [Instr.loadAt,Instr.sureAddr,Sem.run_bind,Sem.run_pure,Result.andThen]
 cases hq:Tryz.prog.info? 55 with
 | none=>have:=size26;simp [hq] at this
 | some x =>
  have hs:x.size=2:=by have:=size26;simpa [hq] using this
  have hagg:(isAgg 55).run Tryz.prog w = .ok true w:=by
   unfold isAgg;rw [Sem.run_bind,run_underlying Tryz.underlying55 w];rfl
  have e4:(DC y).toList.length=2:=rfl;rw [e4] at hl;simp [loadVar,Sem.run_bind,hagg,sizeOf,typeInfo,hq,hs,hl]

def PlA (w w':World) (x:Ending) (B:List En) (y:En):Prop:=∃ z:Int,x = .returned (.int .i64 z)/\Below w.heap.size w w'/\((z = -1/\∀ e∈B,sameDot e y=false)∨∃ k:Nat,k < B.length/\z=(k:Int)/\sameDot (B.getD k en0) y=true)
theorem asc_at {B:List En} (h:Asc B) {i j:Nat} (hij:i < j) (hj:j < B.length):ahead (B.getD i en0) (B.getD j en0)=true:=by
 have h1:=List.pairwise_iff_getElem.1 h i j (by omega) hj hij;simpa [List.getD,List.getElem?_eq_getElem hj,List.getElem?_eq_getElem (show i < B.length by omega)] using h1
theorem not_ahead_same {x y:En} (h:ahead x y=false) (hs:sameDot x y=false):ahead y x=true:=by
 simp [ahead,sameDot] at *;omega
theorem place_any (bo:Option Addr) (m cap:Nat) (B:List En) (y:En) (w:World) (hS:ESrc w bo m cap B) (hA:Asc B) :
  Calls Tryz.prog 55 #[.slice bo m cap,.agg (DC y)] w fun x w'=>PlA w w' x B y:=by
 have b1:=below_new w (.cells (DC y) 55);have HX:=hide (DBox_new w y);have HS:=hide (hS.below b1);have HB:=hide b1;have hmb:=hS.2.2.2.2;have HL:Hid (B.length=m):=hS.1;have HA:=hide hA;clear hS hA b1;obtain ⟨wk,hwk⟩:∃ wk,w.alloc (.cells (DC y) 55)=wk:=⟨_,rfl⟩;obtain ⟨G,hG⟩:∃ G,w.heap.size=G:=⟨_,rfl⟩;rw [hwk] at HX HS HB;rw [hG] at HX;go_enter Tryz.func55,Tryz.ntmps55;go_wp2_with fail;clear hwk hG;go_loopw [5,6] (fun i j wr=>∃ lo hi:Nat,lo <= hi/\hi <= m/\i = .int .i64 (lo:Int)/\j = .int .i64 (hi:Int)/\Hid (Below wk.heap.size wk wr/\(∀ t,t < lo -> ahead (B.getD t en0) y=true)/\(∀ t,hi <= t -> t < m -> ahead (B.getD t en0) y=false))) (fun i j _=>(intOf j).toNat - (intOf i).toNat)
 case atStart=>exact ⟨0,m,Nat.zero_le _,Nat.le_refl _,rfl,rfl,Below.refl _ _,fun t h=>absurd h (by omega),fun t h1 h2=>absurd h2 (by omega)⟩
 case round =>
  obtain ⟨lo,hi,hlh,hhm,rfl,rfl,HI⟩:=hrel
  rename World=>wr
  by_cases hlt:lo < hi
  ·have hlti:(lo:Int) < (hi:Int):=by omega
   obtain ⟨c,Hc⟩:∃ c:Nat,Hid (c=(lo+hi) / 2):=⟨_,rfl⟩
   have hcb:lo <= c/\c < hi:=by have:=Hc.out;omega
   have hdv:((lo:Int)+(hi:Int)).tdiv 2=(c:Int):=by
    have:=Hc.out;rw [Int.tdiv_eq_ediv_of_nonneg (by omega)];omega
   have hcm:(c:Int) < (m:Int):=by omega
   obtain ⟨ad,hao,A0⟩:=(HS.out.below HI.out.1).at c (by omega);subst hao;obtain ⟨e,He⟩:∃ e,Hid (B.getD c en0=e):=⟨_,rfl⟩;rw [He.out] at A0;have HA0:=hide A0;have HXr:=hide (HX.out.below HI.out.1);have HSt:Hid (∀ W,Below wr.heap.size wr W -> (ld26 (.pointer (some (ad.add (c * 4))))).run Tryz.prog W = .ok (.agg (DC e)) W/\(ld26 (.pointer (some ⟨G,0,none⟩))).run Tryz.prog W = .ok (.agg (DC y)) W):=fun W hW=>⟨run_ld26 (HA0.out.on hW),run_ldb (HXr.out.below hW)⟩;have Hb:Hid (lo <= c/\c < hi/\hi <= m):=⟨hcb.1,hcb.2,hhm⟩;clear A0;go_upto_region 4 with fail;clear hdv;refine wp_region_held_drew (S:=fun W=>(ld26 (.pointer (some (ad.add (c * 4))))).run Tryz.prog W = .ok (.agg (DC e)) W/\(ld26 (.pointer (some ⟨G,0,none⟩))).run Tryz.prog W = .ok (.agg (DC y)) W) (by kernel_rfl) (HSt.out _ (below_drew1 wr)) (fun hHeld=>?_);refine wU 0 ?_;refine wU 1 ?_
   refine wU 2 ?_;refine wU 3 ?_;refine wU 4 ?_;refine wU 5 ?_;refine wpAnyH_ready (rs:=[6]) (by kernel_rfl) (by simp) (.cons rfl (fun K hK=>?_) .nil);go_simp;go_wp2_with fail;refine (refAhead_any e y _).mono ?_;rintro x w3 ⟨rfl,b3⟩;have HB3:Hid (Below wr.heap.size wr w3):=(below_drew1 wr).trans b3;refine hK.out _ _ (HSt.out _ HB3.out) (fun hHeld=>?_);clear hK K;clear b3;refine wpAnyH_done (by kernel_rfl) ?_ _;clear hHeld;have HW3:=hide (HI.out.1.trans (HB3.out.mono HI.out.1.size))
   cases ha:ahead e y with
   | true =>
    have HN:Hid (∀ t,t < c+1 -> ahead (B.getD t en0) y=true):=fun t ht=>by
     by_cases e1:t=c
     ·rw [e1,He.out];exact ha
     ·have h1:=asc_at HA.out (show t < c by omega) (by rw [HL.out];have:=Hb.out;omega);rw [He.out] at h1;exact ahead_trans h1 ha
    clear ha;go_wp2_with fail;go_roundw
    case rel=>exact ⟨c+1,hi,by have:=Hb.out;omega,hhm,by simp,rfl,HW3.out,HN.out,HI.out.2.2⟩
    case measure=>simp [intOf];have:=Hb.out;omega
   | false =>
    have HN:Hid (∀ t,c <= t -> t < m -> ahead (B.getD t en0) y=false):=fun t ht htm=>by
     by_cases e1:t=c
     ·rw [e1,He.out];exact ha
     ·have h1:=asc_at HA.out (show c < t by omega) (by rw [HL.out];exact htm);rw [He.out] at h1
      cases h2:ahead (B.getD t en0) y
      ·rfl
      ·rw [ahead_trans h1 h2] at ha;cases ha
    clear ha;go_wp2_with fail;go_roundw
    case rel=>exact ⟨lo,c,Hb.out.1,by have:=Hb.out;omega,rfl,rfl,HW3.out,HI.out.2.1,HN.out⟩
    case measure=>simp [intOf];have:=Hb.out;omega
  ·have hlti:¬ (lo:Int) < (hi:Int):=by omega
   obtain rfl:lo=hi:=by omega
   by_cases hlm:lo < m
   ·have hlmi:(lo:Int) < (m:Int):=by omega
    obtain ⟨ad,hao,A0⟩:=(HS.out.below HI.out.1).at lo hlm;subst hao;obtain ⟨e,He⟩:∃ e,Hid (B.getD lo en0=e):=⟨_,rfl⟩;rw [He.out] at A0;have HA0:=hide A0;have HXr:=hide (HX.out.below HI.out.1);have HSt:Hid (∀ W,Below wr.heap.size wr W -> (ld26 (.pointer (some (ad.add (lo * 4))))).run Tryz.prog W = .ok (.agg (DC e)) W/\(ld26 (.pointer (some ⟨G,0,none⟩))).run Tryz.prog W = .ok (.agg (DC y)) W):=fun W hW=>⟨run_ld26 (HA0.out.on hW),run_ldb (HXr.out.below hW)⟩;have Hlm:=hide hlm;clear A0;go_upto_region 7 with fail;refine wp_region_held_drew (S:=fun W=>(ld26 (.pointer (some (ad.add (lo * 4))))).run Tryz.prog W = .ok (.agg (DC e)) W/\(ld26 (.pointer (some ⟨G,0,none⟩))).run Tryz.prog W = .ok (.agg (DC y)) W) (by kernel_rfl) (HSt.out _ (below_drew1 wr)) (fun hHeld=>?_);refine wU 0 ?_;refine wU 1 ?_;refine wU 2 ?_;refine wU 3 ?_;refine wU 4 ?_;refine wU 5 ?_
    refine wU 6 ?_;refine wU 7 ?_;refine wU 8 ?_;refine wU 9 ?_;refine wU 10 ?_;refine wU 11 ?_;refine wU 12 ?_;refine wpAnyH_done (by kernel_rfl) ?_ _;clear hHeld;have HBr:=hide (HB.out.trans ((HI.out.1.trans ((below_drew1 wr).mono HI.out.1.size)).mono HB.out.size))
    cases hs:sameDot e y with
    | true =>
     have HE:Hid (PlA w wr.drew (.returned (.int .i64 (lo:Int))) B y):=⟨_,rfl,HBr.out,.inr ⟨lo,by rw [HL.out];exact Hlm.out,rfl,by rw [He.out];exact hs⟩⟩;clear hs;go_wp2_with fail;go_ret;exact HE.out
    | false =>
     have HE:Hid (PlA w wr.drew (.returned (.int .i64 (-1))) B y):=by
      refine ⟨_,rfl,HBr.out,.inl ⟨rfl,fun x hx=>?_⟩⟩;obtain ⟨t,ht,rfl⟩:=List.getElem_of_mem hx
      have et:B.getD t en0=B[t]:=by simp [List.getD,List.getElem?_eq_getElem ht]
      rw [<- et];by_cases h1:t < lo
      ·exact ahead_same (HI.out.2.1 t h1)
      ·by_cases h2:t=lo
       ·rw [h2,He.out];exact hs
       ·have h3:=asc_at HA.out (show lo < t by omega) ht;rw [He.out] at h3;have h4:=HI.out.2.2 lo (Nat.le_refl _) Hlm.out;rw [He.out] at h4;have h5:=ahead_trans (not_ahead_same h4 hs) h3;rw [same_symm];exact ahead_same h5
     clear hs;go_wp2_with fail;go_ret;exact HE.out
   ·have hlmi:¬ (lo:Int) < (m:Int):=by omega
    have HE:Hid (PlA w wr.drew (.returned (.int .i64 (-1))) B y):=by
     refine ⟨_,rfl,HB.out.trans ((HI.out.1.trans ((below_drew1 wr).mono HI.out.1.size)).mono HB.out.size),.inl ⟨rfl,fun x hx=>?_⟩⟩;obtain ⟨t,ht,rfl⟩:=List.getElem_of_mem hx
     have et:B.getD t en0=B[t]:=by simp [List.getD,List.getElem?_eq_getElem ht]
     rw [<- et];exact ahead_same (HI.out.2.1 t (by have:=HL.out;omega))
    go_upto_region 7 with fail;refine wp_region_held_drew (S:=fun _=>True) (by kernel_rfl) (trivial) (fun hHeld=>?_);refine wU 0 ?_;refine wU 1 ?_;refine wU 2 ?_;refine wU 3 ?_;refine wU 4 ?_;refine wV 5 ?_;refine wV 6 ?_;refine wV 7 ?_;refine wV 8 ?_;refine wV 9 ?_;refine wV 10 ?_;refine wV 11 ?_;refine wU 12 ?_;refine wpAnyH_done (by kernel_rfl) ?_ _;clear hHeld;go_wp2_with fail;go_ret;exact HE.out
end
end Go.Proofs.YthlbpeoiocdjlaaGreat.K
