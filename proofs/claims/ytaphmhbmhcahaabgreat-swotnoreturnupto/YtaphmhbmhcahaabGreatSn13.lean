/- GKc SQl SLt PLs PDk GFc Shd -/
import Derived.Test.YtaphmhbmhcahaabGreatTk
import Derived.Test.YtaphmhbmhcahaabGreatSn12
import Derived.Test.YtaphmhbmhcahaabGreatSn06
import Derived.Test.YtaphmhbmhcahaabGreatSn08
import Derived.Test.YtaphmhbmhcahaabGreatSn01
import Derived.Laws.AppendOwnNone
import Derived.Shelf.SlSortCmp.WholeK
import Derived.Test.YtaphmhbmhcahaabGreatProg
set_option maxRecDepth 100000
set_option maxHeartbeats 3200000
namespace Go.Proofs.YtaphmhbmhcahaabGreat
section
open Go.RowKit
attribute [local go_sem ↓] ldP_eq stP_eq ldRe_eq stRe_eq
attribute [local go_sem] cells_PV PC_size cells_ReV ReC_size
theorem zero_ReC:(#[.string ⟨#[]⟩,.slice none 0 0,.slice none 0 0]:Array Value)=ReC re0:=rfl
attribute [local go_sem] zero_ReC
structure RcS (w:World) (ao:Option Addr) (n cap:Nat) (L:List Rc):Prop where
 len:L.length=n
 nil:ao=none -> n=0
 at_:∀ ad,ao=some ad -> ∀ t,t < n -> ReAt w (ad.add (t * 3)) (mkR (L.getD t rc0))
 ok:∀ r∈L,RcOk w r
 big:n <= 2199023255552
theorem RcS.below {w w':World} {ao:Option Addr} {n cap:Nat} {L:List Rc} (h:RcS w ao n cap L) (hb:Below w.heap.size w w'):RcS w' ao n cap L:=
 ⟨h.len,h.nil,fun ad e t ht=>(h.at_ ad e t ht).on hb,fun r hr=>(h.ok r hr).below hb,h.big⟩
theorem RcS.at {w:World} {ao:Option Addr} {n cap:Nat} {L:List Rc} (h:RcS w ao n cap L) (k:Nat) (hk:k < n):∃ ad,ao=some ad/\ReAt w (ad.add (k * 3)) (mkR (L.getD k rc0)):=by
 cases ao with
 | none=>have:=h.nil rfl;omega
 | some ad=>exact ⟨ad,rfl,h.at_ ad rfl k hk⟩
theorem RcS.okAt {w:World} {ao:Option Addr} {n cap:Nat} {L:List Rc} (h:RcS w ao n cap L) (k:Nat) (hk:k < n):RcOk w (L.getD k rc0):=by
 have hl:=h.len;rw [List.getD_eq_getElem?_getD,List.getElem?_eq_getElem (by omega)];exact h.ok _ (List.getElem_mem _)
theorem RcS.empty (w:World):RcS w none 0 0 []:=⟨rfl,fun _=>rfl,(fun ad h=>by cases h),(fun r h=>by cases h),by decide⟩
def RecOk (r:Rc):Prop:=skuR r.s=true/\FormP r.p.P
def LtR (a b:Rc):Prop:=∃ z,CmpR a b z/\z < 0
def OkR (L:List Rc) (k:Nat):Prop:=∀ j,j < k -> RecOk (L.getD j rc0)/\(0 < j -> LtR (L.getD (j - 1) rc0) (L.getD j rc0))
theorem OkR.snoc {L:List Rc} {k:Nat} (h:OkR L k) (h1:RecOk (L.getD k rc0)) (h2:0 < k -> LtR (L.getD (k - 1) rc0) (L.getD k rc0)):OkR L (k+1):=by
 intro j hj;by_cases e:j=k
 ·subst e;exact ⟨h1,h2⟩
 ·exact h j (by omega)
theorem okR_zero (L:List Rc):OkR L 0:=fun j hj=>absurd hj (Nat.not_lt_zero j)
def ChkR (L:List Rc) (n:Nat) (x:Int):Prop:=(x=0/\OkR L n)∨(x=1/\¬ OkR L n)
theorem keepCheck_any (ao:Option Addr) (n cap:Nat) (L:List Rc) (w:World) (hS:RcS w ao n cap L):Calls Tryz.prog 32 #[.slice ao n cap] w fun e w'=>GivesK w w' e (ChkR L n):=by
 have HS:=hide hS;have hn:=hS.big;clear hS;go_enter Tryz.func32,Tryz.ntmps32;go_wp2_with fail;go_loopw [7] (fun i wr=>∃ k:Nat,k <= n/\i = .int .i64 k/\Hid (OkR L k)/\Hid (Below w.heap.size w wr)) (fun i _=>n - (intOf i).toNat)
 case atStart=>exact ⟨0,Nat.zero_le _,rfl,okR_zero L,Below.refl _ _⟩
 case round =>
  obtain ⟨k,hk,rfl,HK,HB⟩:=hrel
  rename World=>wr
  by_cases hlt:k < n
  ·obtain ⟨ad,rfl,A0⟩:=(HS.out.below HB.out).at k hlt;have hld:=run_laRe A0;have HO:=hide ((HS.out.below HB.out).okAt k hlt);have HSr:=hide (HS.out.below HB.out);obtain ⟨r,Hr⟩:∃ r,Hid (L.getD k rc0=r):=⟨_,rfl⟩;rw [Hr.out] at hld HO;obtain ⟨gr,hgr⟩:∃ g,wr.heap.size=g:=⟨_,rfl⟩;obtain ⟨w1,hst,X1,B1,-⟩:=madeRe wr (mkR r) gr hgr;have HX:=hide X1;have HB1:=wTr HB B1;have HO1:=hide (HO.out.below B1);have HSr1:=hide (HSr.out.below B1);clear X1 B1 A0 HO HSr;have Hlt:=hide hlt;by_cases hk0:k=0
   ·have hk1:decide (0 < k)=false:=by rw [decide_eq_false_iff_not];omega
    have HK0:=hide hk0;clear hk0;go_wp2_with fail;clear hst hld;refine wp_region_held_drew (S:=fun v=>(ldRe (.pointer (some ⟨gr,0,none⟩))).run Tryz.prog v = .ok (.agg (ReC (mkR r))) v) (by kernel_rfl) (run_ldRe (HX.out.below (below_drew1 w1))) (fun hHeld=>?_);refine wU 0 ?_;refine wpAnyH_ready (rs:=[1]) (by kernel_rfl) (by simp) (.cons rfl (fun K hK=>?_) .nil);go_simp;go_wp2_with fail;refine (checkRecord_any r _ (HO1.out.below (below_drew1 w1))).mono ?_;rintro e w2 ⟨x,rfl,hx,b2⟩;have hB2:Below w1.heap.size w1 w2:=(below_drew1 w1).trans b2;have HB2:=hide hB2;refine hK.out _ _ (run_ldRe (HX.out.below (hB2))) (fun hHeld=>?_);clear hK K b2;by_cases hx0:x=0
    ·obtain rfl:=hx0
     have HOk:Hid (RecOk (L.getD k rc0)):=by rw [Hr.out];exact hx.zero.1 rfl
     clear hx;refine wU 2 ?_;refine wU 3 ?_;refine wU 4 ?_;refine wU 5 ?_;refine wU 6 ?_;refine wV 7 ?_;refine wV 8 ?_;refine wV 9 ?_;refine wV 10 ?_;refine wV 11 ?_;refine wV 12 ?_;refine wV 13 ?_;refine wV 14 ?_;refine wU 15 ?_;refine wU 16 ?_;refine wpAnyH_done (by kernel_rfl) ?_ _;clear hHeld;go_wp2_with fail;go_roundw
     case rel=>exact ⟨k+1,by omega,by simp,HK.out.snoc HOk.out (fun h=>absurd h (by have:=HK0.out;omega)),HB1.out.trans (HB2.out.mono HB1.out.size)⟩
     case measure=>simp [intOf];omega
    ·have HNo:Hid (¬ OkR L n):=fun h=>hx0 (hx.zero.2 (by have:=(h k Hlt.out).1;rw [Hr.out] at this;exact this))
     have hxb:(x != 0)=true:=by simpa using hx0
     clear hx hx0;refine wU 2 ?_;refine wU 3 ?_;refine wV 4 ?_;refine wV 5 ?_;refine wV 6 ?_;refine wV 7 ?_;refine wV 8 ?_;refine wV 9 ?_;refine wV 10 ?_;refine wV 11 ?_;refine wV 12 ?_;refine wV 13 ?_;refine wV 14 ?_;refine wV 15 ?_;refine wU 16 ?_;refine wpAnyH_done (by kernel_rfl) ?_ _;clear hHeld;go_wp2_with fail;go_ret;exact ⟨_,rfl,.inr ⟨rfl,HNo.out⟩,HB1.out.trans (HB2.out.mono HB1.out.size)⟩
   ·obtain ⟨j,Hj⟩:∃ j,Hid (k=j+1):=⟨k - 1,(show k=k - 1+1 by omega)⟩
    have hjn:j < n:=by have:=Hj.out;omega
    have hwj:IntKind.i64.wrap ((k:Int) - 1)=(j:Int):=by rw [IntKind.wrap_i64];have:=Hj.out;omega
    have hk1:decide (0 < k)=true:=by rw [decide_eq_true_iff];omega
    obtain ⟨ad',e',Aj⟩:=HSr1.out.at j hjn;obtain rfl:=Option.some.inj e';have HOj:=hide (HSr1.out.okAt j hjn);obtain ⟨q,Hq⟩:∃ q,Hid (L.getD j rc0=q):=⟨_,rfl⟩;rw [Hq.out] at Aj HOj;have HAj:=hide Aj;clear Aj e';go_wp2_with fail;clear hst hld;refine wp_region_held_drew (S:=fun v=>(ldRe (.pointer (some ⟨gr,0,none⟩))).run Tryz.prog v = .ok (.agg (ReC (mkR r))) v/\(ldRe (.pointer (some (ad.add (j * 3))))).run Tryz.prog v = .ok (.agg (ReC (mkR q))) v) (by kernel_rfl) (⟨run_ldRe (HX.out.below (below_drew1 w1)),run_laRe (HAj.out.on (below_drew1 w1))⟩) (fun hHeld=>?_);refine wU 0 ?_;refine wpAnyH_ready (rs:=[1]) (by kernel_rfl) (by simp) (.cons rfl (fun K hK=>?_) .nil);go_simp;go_wp2_with fail;refine (checkRecord_any r _ (HO1.out.below (below_drew1 w1))).mono ?_;rintro e w2 ⟨x,rfl,hx,b2⟩;have hB2:Below w1.heap.size w1 w2:=(below_drew1 w1).trans b2
    have HB2:=hide hB2;refine hK.out _ _ (⟨run_ldRe (HX.out.below (hB2)),run_laRe (HAj.out.on (hB2))⟩) (fun hHeld=>?_);clear hK K b2;by_cases hx0:x=0
    ·obtain rfl:=hx0
     have HOk:Hid (RecOk (L.getD k rc0)):=by rw [Hr.out];exact hx.zero.1 rfl
     clear hx;refine wU 2 ?_;refine wU 3 ?_;refine wU 4 ?_;refine wU 5 ?_;refine wU 6 ?_;refine wU 7 ?_;refine wU 8 ?_;refine wU 9 ?_;refine wU 10 ?_;refine wU 11 ?_;refine wU 12 ?_;refine wpAnyH_ready (rs:=[13]) (by kernel_rfl) (by simp) (.cons rfl (fun K hK=>?_) .nil);go_simp;go_wp2_with fail;refine (keepCompare_any q r _ (HOj.out.below hB2) (HO1.out.below hB2)).mono ?_;rintro e w3 ⟨z,rfl,hz,b3⟩;have hB3:Below w1.heap.size w1 w3:=HB2.out.trans (b3.mono HB2.out.size);have HB3:=hide hB3;refine hK.out _ _ (⟨run_ldRe (HX.out.below (hB3)),run_laRe (HAj.out.on (hB3))⟩) (fun hHeld=>?_);clear hK K b3 hB2;by_cases hz0:(0:Int) <= z
     ·have hzb:decide (0 <= z)=true:=decide_eq_true hz0
      have HNo:Hid (¬ OkR L n):=fun h=>by
       have h2:=(h k Hlt.out).2 (by have:=Hj.out;omega);rw [show k - 1=j by have:=Hj.out;omega,Hr.out,Hq.out] at h2;obtain ⟨z2,h3,h4⟩:=h2;have:=hz.unique h3;omega
      clear hz hz0;refine wU 14 ?_;refine wU 15 ?_;refine wU 16 ?_;refine wpAnyH_done (by kernel_rfl) ?_ _;clear hHeld;go_wp2_with fail;go_ret;exact ⟨_,rfl,.inr ⟨rfl,HNo.out⟩,HB1.out.trans (HB3.out.mono HB1.out.size)⟩
     ·have hzb:decide (0 <= z)=false:=decide_eq_false hz0
      have HLt:Hid (0 < k -> LtR (L.getD (k - 1) rc0) (L.getD k rc0)):=fun _=>by
       rw [show k - 1=j by have:=Hj.out;omega,Hr.out,Hq.out];exact ⟨z,hz,by omega⟩
      clear hz hz0;refine wU 14 ?_;refine wU 15 ?_;refine wU 16 ?_;refine wpAnyH_done (by kernel_rfl) ?_ _;clear hHeld;go_wp2_with fail;go_roundw
      case rel=>exact ⟨k+1,by omega,by simp,HK.out.snoc HOk.out HLt.out,HB1.out.trans (HB3.out.mono HB1.out.size)⟩
      case measure=>simp [intOf];omega
    ·have HNo:Hid (¬ OkR L n):=fun h=>hx0 (hx.zero.2 (by have:=(h k Hlt.out).1;rw [Hr.out] at this;exact this))
     have hxb:(x != 0)=true:=by simpa using hx0
     clear hx hx0;refine wU 2 ?_;refine wU 3 ?_;refine wV 4 ?_;refine wV 5 ?_;refine wV 6 ?_;refine wV 7 ?_;refine wV 8 ?_;refine wV 9 ?_;refine wV 10 ?_;refine wV 11 ?_;refine wV 12 ?_;refine wV 13 ?_;refine wV 14 ?_;refine wV 15 ?_;refine wU 16 ?_;refine wpAnyH_done (by kernel_rfl) ?_ _;clear hHeld;go_wp2_with fail;go_ret;exact ⟨_,rfl,.inr ⟨rfl,HNo.out⟩,HB1.out.trans (HB2.out.mono HB1.out.size)⟩
  ·obtain rfl:k=n:=by omega
   go_wp2_with fail;go_ret;exact ⟨_,rfl,.inl ⟨rfl,HK.out⟩,HB.out⟩
end
section

def Least (P:Int -> Prop) (k:Int):Prop:=(k=0/\∀ n,¬ P n)∨(1 <= k/\P k/\∀ n,P n -> k <= n)
def Most (A:List Rn) (k:Int):Prop:=(k=0/\∀ n,¬ mem A n)∨(mem A k/\∀ n,mem A n -> n <= k)
def GapP (A:List Rn) (f:Int) (n:Int):Prop:=1 <= n/\n <= 1000000000/\¬ mem A n/\f <= n
end
section
open Go.RowKit
attribute [local go_sem ↓] ldR_eq stR_eq
attribute [local go_sem] zero_RC cells_RV RC_size fold_RC
end
section
open Go.RowKit
attribute [local go_sem ↓] ldP_eq stP_eq ldA_eq stA_eq ixA_eq
attribute [local go_sem] zeros_SA cells_SAv zero_PC cells_PV fold_PC PC_size fold_PC1
def LastOf (P:Pst) (r:Int) (k:Int):Prop:=(V.isR r=true/\Most (runsAt P r.toNat) k)∨(V.isR r=false/\k=0)
def GivesZ (w w':World) (e:Ending) (P:Int -> Prop):Prop:=∃ k,e = .returned (.int .i64 k)/\P k/\Below w.heap.size w w'
end
section
open Go.RowKit

def ldD (v:Value):Sem Value:=Instr.loadAt 37 v
theorem ldD_eq (v:Value):Instr.loadAt 37 v=ldD v:=rfl
def stD (p v:Value):Sem Unit:=Instr.storeAt 37 p v
theorem stD_eq (p v:Value):Instr.storeAt 37 p v=stD p v:=rfl
theorem sizeD:(Tryz.prog.info? 37).map (·.size)=some 2:=by kernel_rfl
theorem infoD:(Tryz.prog.info? 37).map (fun i=>(i.zero,i.size,i.bytes))=some (some (.agg #[.int .i64 0,.int .i64 0]),2,16):=by kernel_rfl
theorem run_ldD {w:World} {p:Addr} {r:Rn} (A:RnAt w p r):(ldD (.pointer (some p))).run Tryz.prog w = .ok (RV r) w:=by
 have hl:=run_loadCells_list (P:=Tryz.prog) (w:=w) p (RC r).toList (fun j v hv=>by
  match j,hv with
  | 0,hv=>cases hv;rw [add_zero];exact A.c0
  | 1,hv=>cases hv;exact A.c1
  | j+2,hv=>simp [RC] at hv)
 unfold ldD;simp only [Instr.loadAt,Instr.sureAddr,Sem.run_bind,Sem.run_pure,Result.andThen]
 cases hq:Tryz.prog.info? 37 with
 | none=>have:=sizeD;simp [hq] at this
 | some x =>
  have hs:x.size=2:=by have:=sizeD;simpa [hq] using this
  have hagg:(isAgg 37).run Tryz.prog w = .ok true w:=by
   unfold isAgg;rw [Sem.run_bind,run_underlying Tryz.underlying37 w];rfl
  have e2:(RC r).toList.length=2:=rfl;rw [e2] at hl;simp [loadVar,Sem.run_bind,hagg,sizeOf,typeInfo,hq,hs,hl,RV]
theorem run_stD {w:World} {g:Nat} {T:TypeId} {r r':Rn} (A:Box w g T r):(stD (.pointer (some ⟨g,0,none⟩)) (RV r')).run Tryz.prog w = .ok () (w.setRow g (RC r')):=by
 unfold stD;have h:=run_storeCells_from (P:=Tryz.prog) g T (RC r').toList 0 (RC r) w A (by simp [RC]) (RC_one r')
 cases hq:Tryz.prog.info? 37 with
 | none=>have:=sizeD;simp [hq] at this
 | some x =>
  have hs:x.size=2:=by have:=sizeD;simpa [hq] using this
  simp only [Instr.storeAt,Instr.sureAddr,Sem.run_bind,Sem.run_pure,Result.andThen,storeVar,sizeOf,typeInfo,cells_RV,RC_size];simp at h;simp [h,hq,hs]
theorem madeD (w:World) (r:Rn) (g:Nat) (hg:w.heap.size=g):∃ w':World,(stD (.pointer (some ⟨g,0,none⟩)) (RV r)).run Tryz.prog (w.alloc (.cells (RC rn0) 37)) = .ok () w'/\Box w' g 37 r/\Below w.heap.size w w'/\w'.heap.size=w.heap.size+1:=by
 subst hg;refine ⟨_,run_stD (box_new w 37 rn0),(box_new w 37 rn0).setRow,below_setRow (below_new w _) (Nat.le_refl _),by simp [World.setRow]⟩
structure OwnD (B0 B:Nat) (w w':World) (ao:Option Addr) (cap:Nat) (acc:List Rn):Prop where
 own:w'.ownsRow B 37 2 (.slice ao acc.length cap) acc.length (rcs acc)
 below:Below B0 w w'
 hB:B <= w'.heap.size
 hB0:B0 <= B
theorem OwnD.later {B0 B:Nat} {w w' w2:World} {ao:Option Addr} {cap:Nat} {acc:List Rn} (O:OwnD B0 B w w' ao cap acc) (hb:Below w'.heap.size w' w2):OwnD B0 B w w2 ao cap acc:=by
 refine ⟨⟨O.own.1,?_⟩,O.below.trans (hb.mono (Nat.le_trans O.hB0 O.hB)),Nat.le_trans O.hB hb.size,O.hB0⟩;rcases O.own.2 with h | ⟨g,cap2,cur,hv,hbg,hgg,r⟩
 ·exact Or.inl h
 ·exact Or.inr ⟨g,cap2,cur,hv,hbg,(hb.block g (Array.getElem?_eq_some_iff.1 hgg).1).trans hgg,r⟩
theorem rcs_cell {w:World} {E:List Rn} {ad:Addr} (h:∀ t,t < E.length -> RnAt w (ad.add (t * 2)) (E.getD t rn0)) (j:Nat) (u:Value) (hj:(rcs E)[j]? = some u):w.cell? (ad.add j)=some u:=by
 have hl:j < E.length * 2:=by rw [<- rcs_length];exact (List.getElem?_eq_some_iff.1 hj).1
 have ht:j / 2 < E.length:=by omega
 have e:=rcs_at E (j / 2) (j % 2) ht (by omega);rw [show j / 2 * 2+j % 2=j by omega,hj] at e;have A:=h (j / 2) ht
 have h2:j % 2=0∨j % 2=1:=by omega
 rcases h2 with h2 | h2
 ·rw [h2] at e
  have e':u = .int .i64 (E.getD (j / 2) rn0).lo:=by simpa [RC] using e
  rw [e',show ad.add j=ad.add (j / 2 * 2) by rw [show j / 2 * 2=j by omega]];exact A.c0
 ·rw [h2] at e
  have e':u = .int .i64 (E.getD (j / 2) rn0).hi:=by simpa [RC] using e
  have:=A.c1;rw [add_add,show j / 2 * 2+1=j by omega] at this;rw [e'];exact this
theorem OwnD.append {B0 B:Nat} {w w':World} {ao:Option Addr} {cap:Nat} {acc:List Rn} (O:OwnD B0 B w w' ao cap acc) (E:List Rn) (ad:Addr) (m c:Nat) (hm:E.length=m) (hE:∀ t,t < m -> RnAt w' (ad.add (t * 2)) (E.getD t rn0)) (hlen:acc.length+m <= 8796093022207)
  {ops:Array Oper} {rest:List Oper} {o:Oper} {a:Act} {Q:Exit -> Act -> World -> Prop} (hgd:o.guard=none) (s x:Operand) (ho:o.op = .call { callee:=.builtin .append,args:=#[s,x],argTypes:=#[83,83] })
  (n:Nat) (hn:acc.length=n) (hs:a.eval s = .slice ao n cap) (hx:a.eval x = .slice (some ad) m c)
  (hK:∀ (ao2:Option Addr) (cap2:Nat) (w2:World),OwnD B0 B w w2 ao2 cap2 (acc++E) -> wpList Tryz.prog ops Q rest (a.put o.dst (.slice ao2 (n+m) cap2)) w2) :
  wpList Tryz.prog ops Q (o :: rest) a w':=by
 subst hn hm;obtain ⟨i0,hi,hz0,hz1,hz2⟩:=info_parts infoD;have hB:=O.hB;have hB0:=O.hB0;refine wpList_append_own _ hgd s x 83 ho B 37 i0 (.agg #[.int .i64 0,.int .i64 0]) 2 16 Tryz.underlying83 hi hz0 hz1 hz2 rfl (by decide) _ acc.length (rcs acc) hs O.own ad E.length c (rcs E) hx (rcs_length E) (fun j u hj=>rcs_cell hE j u hj) (rcs_onecell E) (by unfold maxLen;omega) (by omega) hB ?_;intro v' w2 hown hgrow _;have hrow:∀ k,(Value.slice ao acc.length cap).ownBlock=some k -> B <= k:=fun k hk=>(O.own.lt k hk).1;have hsz:=hgrow.size;have hb2:Below B0 w w2:=O.below.grown hgrow (by omega) (fun k hk=>by have:=hrow k hk;omega);rw [<- rcs_append] at hown;rcases hown.2 with ⟨h0,h00⟩ | ⟨g,cap2,cur,hv,r⟩
 ·subst h0;have e1:acc=[]:=List.eq_nil_of_length_eq_zero (by omega);have e2:E=[]:=List.eq_nil_of_length_eq_zero (by omega);subst e1 e2;exact hK none 0 w2 ⟨hown,hb2,by omega,hB0⟩
 ·subst hv;refine hK (some ⟨g,0,none⟩) cap2 w2 ⟨?_,hb2,by omega,hB0⟩;rw [List.length_append];exact hown
theorem OwnD.appendNone {B0 B:Nat} {w w':World} {ao:Option Addr} {cap:Nat} {acc:List Rn} (O:OwnD B0 B w w' ao cap acc)
  {ops:Array Oper} {rest:List Oper} {o:Oper} {a:Act} {Q:Exit -> Act -> World -> Prop} (hgd:o.guard=none) (s x:Operand) (ho:o.op = .call { callee:=.builtin .append,args:=#[s,x],argTypes:=#[83,83] })
  (n:Nat) (hn:acc.length=n) (hs:a.eval s = .slice ao n cap) (hx:a.eval x = .slice none 0 0)
  (hK:wpList Tryz.prog ops Q rest (a.put o.dst (.slice ao n cap)) w') :
  wpList Tryz.prog ops Q (o :: rest) a w':=by
 subst hn;obtain ⟨i0,hi,hz0,hz1,hz2⟩:=info_parts infoD;exact wpList_append_own_none hgd s x 83 ho B 37 i0 2 Tryz.underlying83 hi _ acc.length (rcs acc) hs O.own hx hK
theorem OwnD.src {B0 B:Nat} {w w':World} {ao:Option Addr} {cap:Nat} {acc:List Rn} (O:OwnD B0 B w w' ao cap acc) (hl:acc.length <= 8796093022207):RSrc w' ao acc.length cap acc/\∀ ad,ao=some ad -> B <= ad.block:=by
 rcases O.own.2 with ⟨h0,h00⟩ | ⟨g,cap2,cur,hv,hbg,hgg,hnc,hcm,hcsz,htake⟩
 ·simp only [Value.slice.injEq] at h0;obtain ⟨rfl,e0,rfl⟩:=h0;exact ⟨⟨rfl,fun _=>⟨h00,rfl⟩,(fun ad h=>by cases h),by omega,Nat.zero_le _,hl⟩,fun ad h=>(by cases h)⟩
 ·simp only [Value.slice.injEq,true_and] at hv;obtain ⟨rfl,rfl⟩:=hv
  have cell:∀ t j,t < acc.length -> j < 2 -> w'.cell? ⟨g,t * 2+j,none⟩=(RC (acc.getD t rn0)).toList[j]?:=fun t j ht hj=>by
   rw [O.own.cellAt (t * 2+j) (by omega),rcs_at _ t j ht hj]
  refine ⟨⟨rfl,fun h=>(by cases h),fun ad h t ht=>?_,hnc,hcm,hl⟩,fun ad h=>by obtain rfl:=Option.some.inj h;exact hbg⟩;obtain rfl:=Option.some.inj h;refine ⟨?_,?_⟩
  ·rw [Addr.add_lit,Nat.zero_add];exact cell t 0 ht (by omega)
  ·rw [Addr.add_lit,Addr.add_lit,Nat.zero_add];exact cell t 1 ht (by omega)
theorem OwnD.appendS {B0 B:Nat} {w w':World} {ao:Option Addr} {cap:Nat} {acc:List Rn} (O:OwnD B0 B w w' ao cap acc) (E:List Rn) (xo:Option Addr) (m c:Nat) (S:RSrc w' xo m c E) (hlen:acc.length+m <= 8796093022207)
  {ops:Array Oper} {rest:List Oper} {o:Oper} {a:Act} {Q:Exit -> Act -> World -> Prop} (hgd:o.guard=none) (s x:Operand) (ho:o.op = .call { callee:=.builtin .append,args:=#[s,x],argTypes:=#[83,83] })
  (n:Nat) (hn:acc.length=n) (hs:a.eval s = .slice ao n cap) (hx:a.eval x = .slice xo m c)
  (hK:∀ (ao2:Option Addr) (cap2:Nat) (w2:World),OwnD B0 B w w2 ao2 cap2 (acc++E) -> wpList Tryz.prog ops Q rest (a.put o.dst (.slice ao2 (n+m) cap2)) w2) :
  wpList Tryz.prog ops Q (o :: rest) a w':=by
 cases xo with
 | some ad=>exact O.append E ad m c S.len (fun t ht=>S.cell ad rfl t ht) hlen hgd s x ho n hn hs hx hK
 | none =>
  obtain ⟨rfl,rfl⟩:=S.nil rfl;have e:=List.eq_nil_of_length_eq_zero S.len;subst e;refine O.appendNone hgd s x ho n hn hs hx ?_;have:=hK ao cap w';rw [List.append_nil,Nat.add_zero] at this;exact this O
theorem ownD_made (w:World):OwnD w.heap.size w.heap.size w (w.alloc (.cells #[] 37)) (some ⟨w.heap.size,0,none⟩) 0 []:=
 ⟨World.ownsRow_made w #[] 0 (Nat.le_refl _) (Nat.zero_le _) rfl,below_new w _,by simp,Nat.le_refl _⟩
end
section
open Go.RowKit
attribute [local go_sem ↓] ldP_eq stP_eq ldD_eq stD_eq
attribute [local go_sem] cells_PV PC_size cells_FaV FaC_size cells_RV RC_size zero_RC fold_RC
structure Fc where
 ao:Option Addr
 an:Nat
 ac:Nat
 es:List K.En
 p:Pv
 ro:Option Addr
 rn:Nat
 rc:Nat
 rs:List Rc
def mkF (f:Fc):FacV:=⟨f.ao,f.an,f.ac,f.p.vo,f.p.vn,f.p.vc,f.p.co,f.p.cn,f.p.cc,f.ro,f.rn,f.rc⟩
structure FcOk (w:World) (f:Fc):Prop where
 es:K.ESrc w f.ao f.an f.ac f.es
 p:PSrc w f.p
 rs:RcS w f.ro f.rn f.rc f.rs
theorem FcOk.below {w w':World} {f:Fc} (h:FcOk w f) (hb:Below w.heap.size w w'):FcOk w' f:=⟨h.es.below hb,h.p.below hb,h.rs.below hb⟩
def FormF (f:Fc):Prop:=K.okN f.es f.an=true/\InForm f.p.P/\OkR f.rs f.rn
def OneA (f:Fc):Prop:=(f.an=0/\f.rn=0)∨(f.an=1/\f.rn=0/\∃ k,LastOf f.p.P (f.es.getD 0 K.en0).rep k/\k < (f.es.getD 0 K.en0).num)∨(f.an=0/\f.rn=1/\EmptyP f.p.P)
def EvOf (f:Fc) (x:Int):Prop:=(¬ FormF f/\x=1)∨(FormF f/\¬ OneA f/\x=2)∨(FormF f/\OneA f/\x=0)
def NoneF (f:Fc):Prop:=f.an=0/\f.rn=0/\EmptyP f.p.P
end
end Go.Proofs.YtaphmhbmhcahaabGreat
namespace Go.Proofs
open Go.Shelf
def Tryz.sortD_ren:Go.Shelf.Ren:=⟨fun | 6=>82 | 15=>121 | 14=>120 | 28=>150 | 29=>151 | 20=>142 | 21=>143 | 22=>144 | 23=>145 | 24=>146 | 25=>147 | 26=>148 | 27=>149 | 46=>175 | 47=>176 | 48=>177 | 49=>178 | 50=>179 | 57=>202 | n=>n,fun | 22=>83 | 24=>37 | 25=>126 | 3=>3 | 39=>154 | 0=>0 | 53=>181 | 55=>183 | 4=>4 | 46=>175 | 45=>174 | 50=>155 | 5=>5 | 9=>9 | 66=>199 | 70=>203 | 76=>215 | 77=>157 | n=>n,fun | n=>n⟩
theorem Tryz.sortD:Go.Proofs.SlLaysF0.n6 Tryz.prog Tryz.sortD_ren:={
 mixed:=by kernel_rfl
 f6:=⟨Tryz.f82.name,by decide,Tryz.func82.trans (congrArg some (by kernel_rfl))⟩
 f14:=⟨Tryz.f120.name,by decide,Tryz.func120.trans (congrArg some (by kernel_rfl))⟩
 f15:=Tryz.func121.trans (congrArg some (by kernel_rfl))
 f20:=⟨Tryz.f142.name,by decide,Tryz.func142.trans (congrArg some (by kernel_rfl))⟩
 f21:=⟨Tryz.f143.name,by decide,Tryz.func143.trans (congrArg some (by kernel_rfl))⟩
 f22:=⟨Tryz.f144.name,by decide,Tryz.func144.trans (congrArg some (by kernel_rfl))⟩
 f23:=⟨Tryz.f145.name,by decide,Tryz.func145.trans (congrArg some (by kernel_rfl))⟩
 f24:=⟨Tryz.f146.name,by decide,Tryz.func146.trans (congrArg some (by kernel_rfl))⟩
 f25:=⟨Tryz.f147.name,by decide,Tryz.func147.trans (congrArg some (by kernel_rfl))⟩
 f26:=⟨Tryz.f148.name,by decide,Tryz.func148.trans (congrArg some (by kernel_rfl))⟩
 f27:=⟨Tryz.f149.name,by decide,Tryz.func149.trans (congrArg some (by kernel_rfl))⟩
 f28:=Tryz.func150.trans (congrArg some (by kernel_rfl))
 f29:=Tryz.func151.trans (congrArg some (by kernel_rfl))
 f46:=⟨Tryz.f175.name,by decide,Tryz.func175.trans (congrArg some (by kernel_rfl))⟩
 f47:=Tryz.func176.trans (congrArg some (by kernel_rfl))
 f48:=Tryz.func177.trans (congrArg some (by kernel_rfl))
 f49:=⟨Tryz.f178.name,by decide,Tryz.func178.trans (congrArg some (by kernel_rfl))⟩
 f50:=⟨Tryz.f179.name,by decide,Tryz.func179.trans (congrArg some (by kernel_rfl))⟩
 f57:=⟨Tryz.f202.name,by decide,Tryz.func202.trans (congrArg some (by kernel_rfl))⟩
 t0:=Tryz.underlying0
 a0:=Tryz.isAgg0
 z0:=Tryz.sizeOf0
 v0:=Tryz.zeroValue0
 t3:=Tryz.underlying3
 a3:=Tryz.isAgg3
 z3:=Tryz.sizeOf3
 v3:=Tryz.zeroValue3
 t4:=Tryz.underlying4
 a4:=Tryz.isAgg4
 z4:=Tryz.sizeOf4
 v4:=Tryz.zeroValue4
 t5:=Tryz.underlying5
 a5:=Tryz.isAgg5
 z5:=Tryz.sizeOf5
 v5:=Tryz.zeroValue5
 t9:=Tryz.underlying9
 a9:=Tryz.isAgg9
 z9:=Tryz.sizeOf9
 v9:=Tryz.zeroValue9
 t22:=Tryz.underlying83
 a22:=Tryz.isAgg83
 z22:=Tryz.sizeOf83
 v22:=Tryz.zeroValue83
 t25:=Tryz.underlying126
 a25:=Tryz.isAgg126
 z25:=Tryz.sizeOf126
 v25:=Tryz.zeroValue126
 t39:=Tryz.underlying154
 a39:=Tryz.isAgg154
 z39:=Tryz.sizeOf154
 v39:=Tryz.zeroValue154
 t45:=Tryz.underlying174
 a45:=Tryz.isAgg174
 z45:=Tryz.sizeOf174
 v45:=Tryz.zeroValue174
 t46:=Tryz.underlying175
 a46:=Tryz.isAgg175
 z46:=Tryz.sizeOf175
 v46:=Tryz.zeroValue175
 t50:=Tryz.underlying155
 a50:=Tryz.isAgg155
 z50:=Tryz.sizeOf155
 v50:=Tryz.zeroValue155
 t53:=Tryz.underlying181
 a53:=Tryz.isAgg181
 z53:=Tryz.sizeOf181
 v53:=Tryz.zeroValue181
 t55:=Tryz.underlying183
 a55:=Tryz.isAgg183
 z55:=Tryz.sizeOf183
 v55:=Tryz.zeroValue183
 t66:=Tryz.underlying199
 a66:=Tryz.isAgg199
 z66:=Tryz.sizeOf199
 v66:=Tryz.zeroValue199
 t70:=Tryz.underlying203
 a70:=Tryz.isAgg203
 z70:=Tryz.sizeOf203
 v70:=Tryz.zeroValue203
 t76:=Tryz.underlying215
 a76:=Tryz.isAgg215
 z76:=Tryz.sizeOf215
 v76:=Tryz.zeroValue215
 t77:=Tryz.underlying157
 a77:=Tryz.isAgg157
 z77:=Tryz.sizeOf157
 v77:=Tryz.zeroValue157 }
end Go.Proofs
