/- BDs LSp BBx BAq -/
import Derived.Test.YtcilfelgpmfehaaGreatBj29
import Derived.Deep.CutRange
set_option maxRecDepth 100000
set_option maxHeartbeats 3200000
namespace Go.Proofs.YtcilfelgpmfehaaGreat
open Go.RowKit Go.Maps Go.Sort
attribute [local go_sem ↓] qg qf K.zu K.zt
attribute [local go_sem] K.zs K.zB
theorem pE:Keyed Tryz.prog 9:=string_keyed Tryz.underlying9
theorem mT (w:World):(zeroValue 123).run Tryz.prog w = .ok (HsV hs0) w:=by kernel_rfl
def cV (L:List K.En) (s:ByteArray):List Rn:=(L.filter (fun e=>decide (s.size=0) || decide (e.sku=s))).map am
theorem ku (L:List K.En) (s:ByteArray):(cV L s).length <= L.length:=by unfold cV;rw [List.length_map];exact List.length_filter_le _ _
def dQ:ByteArray:=⟨#[]⟩
theorem zfS {s:ByteArray} (h:s.size=0):s=dQ:=by
 obtain ⟨d⟩:=s;have:d=#[]:=Array.eq_empty_of_size_eq_zero h;rw [this];rfl
theorem zce {L:List K.En} {e:K.En} (_:¬ e.sku.size=0) (s:ByteArray) :
  rcs (cV (L++[e]) s)=if s=dQ then rcs (cV L s)++(RC (am e)).toList else if s=e.sku then rcs (cV L s)++(RC (am e)).toList else rcs (cV L s):=by
 unfold cV;rw [List.filter_append,List.map_append,xj];by_cases h0:s=dQ
 ·subst h0
  have h:List.filter (fun e=>decide (dQ.size=0) || decide (e.sku=dQ)) [e]=[e]:=by simp only [show decide (dQ.size=0)=true from rfl,Bool.true_or,List.filter_cons,List.filter_nil,if_true]
  rw [if_pos rfl,h];simp [jY]
 ·have h1:¬ s.size=0:=fun h=>h0 (zfS h);rw [if_neg h0];by_cases h2:s=e.sku
  ·subst h2;simp [h1,jY]
  ·have h3:¬ e.sku=s:=fun h=>h2 h.symm;simp [h1,h2,h3,rcs]
def MD (w W:World) (kk:Nat) (L:List K.En):Prop:=∃ K f,MRo Tryz.prog 9 64 2 (w.heap.size+1) w W w.heap.size kk K f (fun s=>rcs (cV L s))
theorem zfv {w W:World} {b B k:Nat} {K:ByteArray -> Prop} {f:ByteArray -> Hs} {X:ByteArray -> List Value} (M:MRo Tryz.prog 9 64 2 B w W b k K f X) (s:ByteArray) (d:Rn) (hn:(f s).n <= 8000000000000) :
  ∃ g c2 W2,(Builtin.append_ #[123,123] 123 #[HsV (f s),.slice (some ⟨W.heap.size,0,none⟩) 1 1]).run Tryz.prog (W.alloc (.cells (RC d) 64)) = .ok (.slice (some ⟨g,0,none⟩) ((f s).n+1) c2) W2/\MRm Tryz.prog 9 64 2 B w W2 b k K f X s ⟨some ⟨g,0,none⟩,(f s).n+1,c2⟩ (X s++(RC d).toList)/\∀ q,q < W.heap.size -> (HsV (f s)).ownBlock≠some q -> W2.heap[q]? = W.heap[q]?:=by
 obtain ⟨i0,hi,dn,dm,ef⟩:=info_parts pO
 obtain ⟨g,c2,W2,h1,h2,h3⟩:=(M.later (ze W (.cells (RC d) 64))).app s (ty:=123) Tryz.underlying123 hi dn dm ef (by simp [Value.cells]) (by decide) ⟨W.heap.size,0,none⟩ 1 (RC d).toList rfl (fun j u hj=>by
  rw [Addr.add_lit,Nat.zero_add,World.cell?_alloc_new]
  simpa using hj) (jE d) (by unfold maxLen;omega) (by omega)
 exact ⟨g,c2,W2,h1,h2,fun q hq hn=>(h3 q (by simp;omega) hn).trans (Below.heap_alloc W _ q hq)⟩
theorem MRo.len {w W:World} {b B k:Nat} {K0:ByteArray -> Prop} {f:ByteArray -> Hs} {L:List K.En} (M:MRo Tryz.prog 9 64 2 B w W b k K0 f (fun s=>rcs (cV L s))) (s:ByteArray):(f s).n=(cV L s).length:=by
 have h:=(M.rows s).1;rw [qm] at h;omega
theorem zcf (ao:Option Addr) (n cap:Nat) (L:List K.En) (w:World) (hS:K.aF w ao n cap L) (aT:∀ e∈L,¬ e.sku.size=0) :
  Calls Tryz.prog 71 #[.slice ao n cap] w fun x w'=>∃ kk,x = .returned (.map (some w.heap.size))/\MD w w' kk L:=by
 have HS:=hide hS;have HL:Hid (L.length=n):=hS.1;have hn:=hS.2.2.2.2;have Lq:=hide aT;have Jj:=@run_makeMap Tryz.prog;obtain ⟨w1,dH⟩:∃ w1,w.alloc (.map #[] 0)=w1:=⟨_,rfl⟩;obtain ⟨b,hb⟩:∃ b,w.heap.size=b:=⟨_,rfl⟩;have Cl:Hid (MD w w1 0 []):=⟨_,_,dH ▸ MRo.start w⟩;have Hb:=hide hb;clear hS aT;go_enter Tryz.func71,Tryz.ntmps71;go_wp2_with fail;clear dH hb;go_loopw [9] (fun i wr=>∃ k:Nat,k <= n/\i = .int .i64 (k:Int)/\Hid (MD w wr (2 * k) (L.take k))) (fun i _=>n - (intOf i).toNat)
 case atStart=>exact ⟨0,Nat.zero_le _,rfl,Cl⟩
 case round =>
  obtain ⟨k,hk,rfl,HM⟩:=hrel
  rename World=>wr
  clear Cl;by_cases aq:k < n
  ·have dl:(k:Int) < (n:Int):=by omega
   obtain ⟨K0,f,M⟩:=HM.out;obtain ⟨ad,fl,A0⟩:=(HS.out.below M.below).at k aq;subst fl;obtain ⟨e,He⟩:∃ e,Hid (L.getD k K.en0=e):=⟨_,rfl⟩;have gL:=HS.out.sku k aq;have HT:=hide (K.xE L k (by rw [HL.out];exact aq));have ED:¬ (L.getD k K.en0).sku.size=0:=Lq.out _ (by rw [List.getD_eq_getElem?_getD,List.getElem?_eq_getElem (by rw [HL.out];exact aq)];exact List.getElem_mem _);rw [He.out] at A0 gL HT ED;have NK:=hide ED;have dz:=K.zX A0;obtain ⟨g7,fT⟩:∃ g7,wr.heap.size=g7:=⟨_,rfl⟩;obtain ⟨w7,cr,X7,B7,S7⟩:=K.gE wr e g7 fT;replace cr:(K.lW (.pointer (some ⟨g7,0,none⟩)) (K.EV e)).run Tryz.prog (wr.alloc (.cells #[.int .i64 0,.int .i64 0,.string ⟨#[]⟩,.int .i64 0] 66)) = .ok () w7:=cr;have M7:=(M.later B7).later (zd w7)
   have FG:∀ s,(f s).n <= 8000000000000:=fun s=>by rw [M.len s];have h1:=ku (L.take k) s;have h2:=List.length_take_le k L;omega
   have oP:∀ s,(HsV (f s)).ownBlock≠some g7:=fun s h=>by have:=((M.rows s).lt g7 h).2;omega
   have A7:Hid (∀ W,Below w7.drew.heap.size w7.drew W -> (Instr.lookup 119 (.map (some b)) (.string e.sku) false).run Tryz.prog W = .ok (HsV (f e.sku)) W):=fun W hW=>by
    have:=(M7.later hW).look pE Tryz.underlying9 Tryz.underlying119 (mT W) e.sku gL;rwa [Hb.out] at this
   obtain ⟨g8,c8,w8,BK,M8,k8⟩:=zfv M7 e.sku (am e) (FG _);obtain ⟨w9,nL,M9,k9⟩:=M8.put pE Tryz.underlying9 Tryz.underlying119 gL (by unfold maxLen;omega);rw [Hb.out] at nL k9
   have gz:g7≠b:=by have:=M.hb;rw [Hb.out] at this;omega
   have z7:w7.drew.heap[g7]? = w7.heap[g7]?:=rfl;have z8:w8.heap[g7]? = w7.heap[g7]?:=k8 g7 (show g7 < w7.heap.size by omega) (oP _);have z9:w9.heap[g7]? = w7.heap[g7]?:=(k9 g7 (Nat.lt_of_lt_of_le (show g7 < w7.heap.size by omega) (by have:=M8.hb.2.2;have:=(Array.getElem?_eq_some_iff.1 (z8.trans X7)).1;omega)) gz).trans z8
   have aw:Hid (∀ W:World,W.heap[g7]? = w7.heap[g7]? -> W.cell? ⟨g7,2,none⟩=some (.string e.sku)/\(ldD (.pointer (some ⟨g7,0,none⟩))).run Tryz.prog W = .ok (.agg #[.int .i64 e.rep,.int .i64 e.num]) W):=fun W h=>by
    have X:K.Box W g7 66 e:=h.trans X7;exact ⟨X.at.c2,qw (zaT X)⟩
   have HZ:Hid (w8.heap[g7]? = w7.heap[g7]? /\ w9.heap[g7]? = w7.heap[g7]?):=⟨z8,z9⟩;have uF:Hid ((w7.drew.alloc (.cells #[.int .i64 e.rep,.int .i64 e.num] 64)).heap[g7]? = w7.heap[g7]?):=Below.heap_alloc w7.drew _ g7 (show g7 < w7.heap.size by omega);have l0:=A7.out w7.drew (Below.refl _ _);have l1:=A7.out _ (ze w7.drew (.cells #[.int .i64 e.rep,.int .i64 e.num] 64));have l2:(Instr.lookup 119 (.map (some b)) (.string e.sku) false).run Tryz.prog (w7.alloc (.cells #[.int .i64 e.rep,.int .i64 e.num] 64)).drew = .ok (HsV (f e.sku)) (w7.drew.alloc (.cells #[.int .i64 e.rep,.int .i64 e.num] 64)):=l1
   obtain ⟨K1,f1,X1,M9',tq⟩:∃ K1 f1 X1,MRo Tryz.prog 9 64 2 (w.heap.size+1) w w9 w.heap.size (2 * k+1) K1 f1 X1/\∀ s,X1 s=if s=e.sku then rcs (cV (L.take k) s)++(RC (am e)).toList else rcs (cV (L.take k) s):=⟨_,_,_,M9,fun s=>by
    by_cases h:s=e.sku
    ·subst h;simp
    ·simp [h]⟩
   have se:(f1 dQ).n <= 8000000000000:=by
    have h:=(M9'.rows dQ).1;have h1:=ku (L.take k) dQ;have h2:=List.length_take_le k L;rw [tq] at h
    split at h
    ·rw [List.length_append,qm] at h;have:(RC (am e)).toList.length=2:=rfl;omega
    ·rw [qm] at h;omega
   have l3:=M9'.look pE Tryz.underlying9 Tryz.underlying119 (mT w9) dQ (by decide);rw [Hb.out] at l3;obtain ⟨ga,ca,wa,BV,Ma,ka⟩:=zfv M9' dQ (am e) se;obtain ⟨wb,FX,Mb,kb⟩:=Ma.put pE Tryz.underlying9 Tryz.underlying119 (by decide) (by unfold maxLen;omega);rw [Hb.out] at FX;have JB:Hid ((Instr.lookup 119 (.map (some b)) (.string ⟨#[]⟩) false).run Tryz.prog w9 = .ok (.slice (f1 dQ).o (f1 dQ).n (f1 dQ).c) w9):=l3;have IO:Hid ((Instr.mapUpdate 119 (.map (some b)) (.string ⟨#[]⟩) (.slice (some ⟨ga,0,none⟩) ((f1 dQ).n+1) ca)).run Tryz.prog wa = .ok () wb):=FX;have EM:Hid ((Builtin.append_ #[123,123] 123 #[.slice (f1 dQ).o (f1 dQ).n (f1 dQ).c,.slice (some ⟨w9.heap.size,0,none⟩) 1 1]).run Tryz.prog (w9.alloc (.cells #[.int .i64 e.rep,.int .i64 e.num] 64)) = .ok (.slice (some ⟨ga,0,none⟩) ((f1 dQ).n+1) ca) wa):=BV
   have CM:Hid (MD w wb (2 * (k+1)) (L.take (k+1))):=by
    have hX:(fun s=>rcs (cV (L.take (k+1)) s))=fun u=>if u=dQ then X1 dQ++(RC (am e)).toList else X1 u:=by
     funext s
     rw [HT.out,zce ED s,tq s,tq dQ];have h0:¬ dQ=e.sku:=fun h=>ED (by rw [<- h];rfl);by_cases h1:s=dQ
     ·subst h1;simp [h0]
     ·simp [h1]
    have h:=Mb;rw [<- hX] at h;exact ⟨_,_,h⟩
   have cj:=hide aq;have te:Hid ((Builtin.append_ #[123,123] 123 #[.slice (f e.sku).o (f e.sku).n (f e.sku).c,.slice (some ⟨w7.heap.size,0,none⟩) 1 1]).run Tryz.prog (w7.drew.alloc (.cells #[.int .i64 e.rep,.int .i64 e.num] 64)) = .ok (.slice (some ⟨g8,0,none⟩) ((f e.sku).n+1) c8) w8):=BK;clear A0 X7 B7 S7 M M7 M8 M9 M9' tq se l3 BV Ma ka FX Mb kb k8 k9 z7 z8 z9 BK aq hk;go_upto_region 5 with fail;clear cr dz;refine wp_region_held_drew (S:=fun W=>W.cell? ⟨g7,2,none⟩=some (.string e.sku)/\(ldD (.pointer (some ⟨g7,0,none⟩))).run Tryz.prog W = .ok (.agg #[.int .i64 e.rep,.int .i64 e.num]) W) (by kernel_rfl) (aw.out _ rfl) (fun hHeld=>?_);refine wU 0 ?_;refine wU 1 ?_;refine wU 2 ?_;refine wU 3 ?_;refine wU 4 ?_;refine wU 5 ?_;refine wU 7 ?_;refine wU 8 ?_;refine wpAnyH_ready (rs:=[6,9]) (by kernel_rfl) (by simp) ?_;refine AllReadyH.cons rfl (fun K hK=>?_) ?_
   ·go_simp;refine hK.out _ _ (aw.out _ rfl) (fun hHeld=>?_);clear hK K;refine wR 9 fun K hK=>?_;go_simp;refine hK.out _ _ (aw.out _ uF.out) (fun hHeld=>?_);clear hK K;refine wR 10 fun K hK=>?_;refine qe (by rfl) (.tmp 19) (.tmp 22) (by rfl) (by rfl) (by rfl) te.out ?_;refine hK.out _ _ (aw.out _ HZ.out.1) (fun hHeld=>?_);clear hK K;refine wR 11 fun K hK=>?_;go_simp;refine hK.out _ _ (aw.out _ HZ.out.2) (fun hHeld=>?_);clear hK K;refine wD ?_ _;clear hHeld;have l3:=JB.out;have u3:=IO.out;obtain ⟨-,d3⟩:=aw.out w9 HZ.out.2;clear l0 l1 l2 nL;go_wp2_with (at_builtin;refine xP rfl (.tmp 26) (.tmp 29) rfl rfl rfl EM.out ?_)
    go_roundw
    case rel=>exact ⟨k+1,cj.out,by simp,CM⟩
    case measure=>simp [intOf];have:=cj.out;omega
   ·refine AllReadyH.cons rfl (fun K hK=>?_) ?_;rotate_left
    ·exact AllReadyH.nil
    go_simp;refine hK.out _ _ (aw.out _ uF.out) (fun hHeld=>?_);clear hK K;refine wR 6 fun K hK=>?_;go_simp;refine hK.out _ _ (aw.out _ uF.out) (fun hHeld=>?_);clear hK K;refine wR 10 fun K hK=>?_;refine qe (by rfl) (.tmp 19) (.tmp 22) (by rfl) (by rfl) (by rfl) te.out ?_;refine hK.out _ _ (aw.out _ HZ.out.1) (fun hHeld=>?_);clear hK K;refine wR 11 fun K hK=>?_;go_simp;refine hK.out _ _ (aw.out _ HZ.out.2) (fun hHeld=>?_);clear hK K;refine wD ?_ _;clear hHeld;have l3:=JB.out;have u3:=IO.out;obtain ⟨-,d3⟩:=aw.out w9 HZ.out.2;clear l0 l1 l2 nL;go_wp2_with (at_builtin;refine xP rfl (.tmp 26) (.tmp 29) rfl rfl rfl EM.out ?_)
    go_roundw
    case rel=>exact ⟨k+1,cj.out,by simp,CM⟩
    case measure=>simp [intOf];have:=cj.out;omega
  ·obtain rfl:k=n:=by omega
   have HE:Hid (∃ kk,MD w wr kk L):=by
    have h:=HM.out;rw [List.take_of_length_le (by have:=HL.out;omega)] at h;exact ⟨_,h⟩
   go_wp2_with fail;go_ret;obtain ⟨kk,h⟩:=HE.out;exact ⟨kk,by rw [Hb.out];rfl,h⟩
end Go.Proofs.YtcilfelgpmfehaaGreat
namespace Go.Proofs.YtcilfelgpmfehaaGreat.K
open Go.RowKit

theorem wo {R:List En} (ha:Asc R) (hc:∀ e∈R,ceE e=0):chk R=0:=by
 have key:okN R R.length=true:=by
  unfold okN;rw [List.all_eq_true];intro k hk;have iQ:=List.mem_range.1 hk;unfold okAt;rw [Bool.and_eq_true];refine ⟨?_,?_⟩
  ·rw [beq_iff_eq];exact hc _ (yV R k iQ)
  ·cases k with
   | zero=>rfl
   | succ j =>
    have h:=List.pairwise_iff_getElem.1 ha j (j+1) (by omega) iQ (by omega)
    have e1:R.getD j en0=R[j]:=by simp [List.getD,show j < R.length by omega]
    have e2:R.getD (j+1) en0=R[j+1]:=by simp [List.getD,iQ]
    simp only [Nat.add_sub_cancel,e1,e2,h,Bool.or_true]
 unfold chk;rw [if_pos key]
theorem kx {R:List En} (h:chk R=0):Asc R:=by
 refine yu R (fun i hi=>?_);have:=ye R _ (y9 h) (i+1) hi;unfold okAt at this;rw [Bool.and_eq_true] at this;simpa using this.2
end Go.Proofs.YtcilfelgpmfehaaGreat.K
namespace Go.Proofs.YtcilfelgpmfehaaGreat
section
open Go.RowKit
theorem xN {L:List K.En} (h:K.chk L=0):∀ e∈L,K.ceE e=0:=fun e he=>by
 obtain ⟨k,hk,rfl⟩:=List.getElem_of_mem he;have h1:=K.ye L _ (K.y9 h) k hk;unfold K.okAt at h1;rw [Bool.and_eq_true] at h1
 have e1:L.getD k K.en0=L[k]:=by simp [List.getD,List.getElem?_eq_getElem hk]
 rw [e1] at h1;simpa using h1.1
theorem zap {e:K.En} (h:K.ceE e=0):okD (am e)=true:=by
 unfold K.ceE at h;by_cases h1:K.isR e.rep=false
 ·rw [if_pos h1] at h;cases h
 ·rw [if_neg h1] at h;by_cases h2:e.num < 1∨1000000000 < e.num
  ·rw [if_pos h2] at h;cases h
  ·have h3:K.isR e.rep=true:=by simpa using h1
   unfold okD am V.isR;unfold K.isR at h3;simp only [Bool.and_eq_true,decide_eq_true_eq] at h3 ⊢;exact ⟨h3,by omega,by omega⟩
theorem zf5 {L:List K.En} (h:K.chk L=0) {x y:K.En} (hx:x∈L) (hy:y∈L) (e:am x=am y):x=y:=by
 apply Classical.byContradiction;intro hn;refine K.j7 (K.kx h) (fun _=>Iff.rfl) ⟨x,hx,y,hy,?_,hn⟩;unfold am at e;simp only [Rn.mk.injEq] at e;simp [K.aj,e.1,e.2]
theorem zfE {e:K.En} (h:K.ceE e=0):¬ e.sku.size=0:=by
 intro h0
 have hn:e.sku.data.toList=[]:=by
  apply List.eq_nil_of_length_eq_zero;rw [K.jp];exact h0
 unfold K.ceE at h;by_cases h1:K.isR e.rep=false
 ·rw [if_pos h1] at h;cases h
 ·rw [if_neg h1] at h;by_cases h2:e.num < 1∨1000000000 < e.num
  ·rw [if_pos h2] at h;cases h
  ·rw [if_neg h2,hn] at h
   have hg:K.eS ([]:List UInt8)=false:=by decide
   simp [hg] at h
def BX (L:List K.En) (F:List Rc) (X:List Pv):Prop:=(∀ r:Nat,r < 16 -> ∀ m,(∃ p∈X,mem (aa p.P r) m)↔∃ f∈F,mem (cv (cV L f.s) r) m/\mem (aa f.p.P r) m)/\wt X <= F.length * (L.length+1)
theorem BX.nil (L:List K.En):BX L [] []:=⟨fun r _ m=>by simp,Nat.zero_le _⟩
theorem BX.snoc {L:List K.En} {F:List Rc} {X:List Pv} (h:BX L F X) {f:Rc} {D:Pst} {p:Pv} (hD:ae (cv (cV L f.s)) D) (hm:∃ C:Nat -> List Rn,(∀ r,r < 16 -> dD (aa D r) (aa f.p.P r) (C r))/\ae C p.P):BX L (F++[f]) (X++[p]):=by
 obtain ⟨C,hC,hP⟩:=hm
 have key:∀ r:Nat,r < 16 -> ∀ m,mem (C r) m↔mem (cv (cV L f.s) r) m/\mem (aa f.p.P r) m:=fun r hr m=>by rw [(hC r hr).2 m,zV hD r hr m]
 refine ⟨fun r hr m=>?_,?_⟩
 ·constructor
  ·rintro ⟨q,hq,hm⟩;rcases List.mem_append.1 hq with hq | hq
   ·obtain ⟨g,hg,h1⟩:=(h.1 r hr m).1 ⟨q,hq,hm⟩;exact ⟨g,List.mem_append_left _ hg,h1⟩
   ·obtain rfl:q=p:=by simpa using hq
    rw [zV hP r hr m,key r hr m] at hm;exact ⟨f,by simp,hm⟩
  ·rintro ⟨g,hg,h1⟩;rcases List.mem_append.1 hg with hg | hg
   ·obtain ⟨q,hq,h2⟩:=(h.1 r hr m).2 ⟨g,hg,h1⟩;exact ⟨q,List.mem_append_left _ hq,h2⟩
   ·obtain rfl:g=f:=by simpa using hg
    exact ⟨p,by simp,by rw [zV hP r hr m,key r hr m];exact h1⟩
 ·have h1:p.P.cloud.length <= (cV L f.s).length:=zaY hP _ (fun r hr n hn=>by
   obtain ⟨d,hd,-,e1,e2⟩:=(xL _ _ _).1 ((key r hr n).1 hn).1
   have:d=⟨(r:Int),n⟩:=by cases d;simp_all
   rw [<- this];exact hd)
  have h2:=ku L f.s;have h3:=h.2;rw [vz,List.length_append];simp only [wt,List.length_cons,List.length_nil];rw [Nat.add_mul];omega
theorem zgx {a b:ByteArray} (h:(a.toList == b.toList)=true):a=b:=by
 rw [beq_iff_eq,ByteArray.toList_eq,ByteArray.toList_eq] at h
 cases a;cases b
 simp at h;rw [h]
theorem zd4 (a:ByteArray):(a.toList == a.toList)=true:=by simp
theorem zc1 {s:ByteArray} (h:s.size=0):s=cI:=by
 obtain ⟨d⟩:=s;have:d=#[]:=Array.eq_empty_of_size_eq_zero h;rw [this];rfl
theorem zdw {e:K.En} (he:okD (am e)=true) (r:Rc):iN r e=true↔(r.s=cI∨r.s=e.sku)/\mem (aa r.p.P e.rep.toNat) e.num:=by
 unfold iN;rw [Bool.and_eq_true,qk,Bool.or_eq_true,decide_eq_true_eq]
 have h1:V.isR e.rep=true:=by
  unfold okD am at he;simp only [Bool.and_eq_true] at he;exact he.1
 constructor
 ·rintro ⟨h2,h3⟩;refine ⟨h2.elim (fun h=>.inl (zc1 h)) (fun h=>.inr (zgx h)),h3.2⟩
 ·rintro ⟨h2,h3⟩;refine ⟨h2.elim (fun h=>.inl (by rw [h];rfl)) (fun h=>.inr (by rw [h];exact zd4 _)),h1,h3⟩
theorem zdn {L:List K.En} {R F:List Rc} (hc:K.chk L=0) (hF:it R F) {X:List Pv} (hX:BX L F X) {P:Pst} (hP:ae (aA X) P):L.filter (pkB P false)=L.filter (cN R):=by
 apply List.filter_congr;intro e he;have hd:=zap (xN hc e he);have hs:=zfE (xN hc e he)
 have hR:V.isR e.rep=true:=by
  have h:=hd;unfold okD am at h;simp only [Bool.and_eq_true] at h;exact h.1
 have hr:0 <= e.rep/\e.rep < 16:=by simpa [V.isR] using hR
 have ni:e.rep.toNat < 16:=by omega
 have Cp:∀ s:ByteArray,mem (cv (cV L s) e.rep.toNat) e.num↔(s=cI∨s=e.sku):=fun s=>by
  rw [xL];unfold cV;constructor
  ·rintro ⟨d,Bq,-,h1,h2⟩;obtain ⟨x,hx,rfl⟩:=List.mem_map.1 Bq;obtain ⟨nd,mv⟩:=List.mem_filter.1 hx
   have ed:am x=am e:=by
    unfold am at h1 h2 ⊢;simp only at h1 h2;congr 1;omega
   have:=zf5 hc nd he ed;subst this;rw [Bool.or_eq_true,decide_eq_true_eq,decide_eq_true_eq] at mv;exact mv.elim (fun h=>.inl (zc1 h)) (fun h=>.inr h.symm)
  ·intro h;refine ⟨am e,List.mem_map.2 ⟨e,List.mem_filter.2 ⟨he,?_⟩,rfl⟩,hd,by unfold am;simp only;omega,rfl⟩;rw [Bool.or_eq_true,decide_eq_true_eq,decide_eq_true_eq];exact h.elim (fun h=>.inl (by rw [h];rfl)) (fun h=>.inr h.symm)
 have C0:inB P e=true↔∃ f∈F,(f.s=cI∨f.s=e.sku)/\dZ R f.s e.rep.toNat e.num:=by
  rw [qk];unfold cu;simp only [hR,true_and];rw [zV hP _ ni,jH,hX.1 _ ni];constructor
  ·rintro ⟨f,hf,h1,h2⟩;refine ⟨f,hf,(Cp f.s).1 h1,?_⟩;obtain ⟨C,hC,hI⟩:=(hF.2.1 f hf).2.1;exact (hI _ ni _).1 ((zV hC _ ni _).1 h2)
  ·rintro ⟨f,hf,h1,h2⟩;refine ⟨f,hf,(Cp f.s).2 h1,?_⟩;obtain ⟨C,hC,hI⟩:=(hF.2.1 f hf).2.1;exact (zV hC _ ni _).2 ((hI _ ni _).2 h2)
 have sg:inB P e=true↔R.any (fun r=>iN r e)=true:=by
  rw [C0,List.any_eq_true];constructor
  ·rintro ⟨f,hf,h1,⟨x,hx,E5,hm⟩,-⟩;exact ⟨x,hx,(zdw hd x).2 ⟨by rw [E5];exact h1,hm⟩⟩
  ·rintro ⟨r,tu,A6⟩;obtain ⟨h1,h2⟩:=(zdw hd r).1 A6
   have step:∀ s,(s=cI∨s=e.sku) -> dZ R s e.rep.toNat e.num -> ∃ f∈F,(f.s=cI∨f.s=e.sku)/\dZ R f.s e.rep.toNat e.num:=fun s ml hM=>by
    obtain ⟨x,hx,E5,-⟩:=hM.1;apply Classical.byContradiction;intro hn;refine hF.2.2 s ⟨x,hx,E5⟩ (fun f hf hfs=>hn ⟨f,hf,by rw [hfs];exact ml,by rw [hfs];exact hM⟩) _ ni _ hM
   by_cases hz:∃ x∈R,x.s=cI/\mem (aa x.p.P e.rep.toNat) e.num
   ·exact step cI (.inl rfl) ⟨hz,fun h=>absurd rfl h⟩
   ·rcases h1 with h1 | h1
    ·exact absurd ⟨r,tu,h1,h2⟩ hz
    ·exact step e.sku (.inr rfl) ⟨⟨r,tu,h1,h2⟩,fun _=>hz⟩
 unfold pkB cN
 cases h1:inB P e <;> cases h2:R.any (fun r=>iN r e)
 ·rfl
 ·rw [h1,h2] at sg;exact absurd (sg.2 rfl) (by decide)
 ·rw [h1,h2] at sg;exact absurd (sg.1 rfl) (by decide)
 ·rfl
theorem zeG {L:List K.En} {R:List Rc} (hc:K.chk L=0) (hF:it R []):L.filter (cN R)=L:=by
 have h:=zdn hc hF (BX.nil L) (P:=pv0.P) ⟨fun _=>[],fun _ _=>⟨trivial,fun _=>Iff.rfl⟩,by decide⟩;rw [<- h];apply List.filter_eq_self.2;intro e _
 have:inB pv0.P e=false:=by
  cases hb:inB pv0.P e
  ·rfl
  ·rw [qk] at hb;unfold cu at hb;obtain ⟨h1,h2⟩:=hb;exact absurd h2 (by unfold aa pv0;simp [aQ,ag,V.at',mem,V.dK])
 unfold pkB;rw [this];rfl
end
section
open Go.RowKit Go.Maps Go.Sort
attribute [local go_sem ↓] zl zk zR zQ
attribute [local go_sem] zy zH zT
theorem zaa {α : Type} [DecidableEq α]:∀ (l m:List α),l.Nodup -> (∀ x∈l,x∈m) -> l.length <= m.length
 | [],_,_,_=>Nat.zero_le _
 | x :: l,m,hn,hs=>by
  have h1:=List.nodup_cons.1 hn;have hx:=hs x List.mem_cons_self;have h2:=zaa l (m.erase x) h1.2 (fun y hy=>(List.mem_erase_of_ne (fun e=>h1.1 (by rw [<- e];exact hy))).2 (hs y (List.mem_cons_of_mem _ hy)));rw [List.length_erase_of_mem hx] at h2;have:=List.length_pos_of_mem hx;simp only [List.length_cons];omega
theorem zdF:∀ a:List UInt8,Lib.compareBytes a a=0
 | []=>by simp [Lib.compareBytes]
 | a :: x=>by
  have h0:¬ a < a:=UInt8.lt_irrefl a;simpa [Lib.compareBytes,h0] using zdF x
theorem zeJ {R F:List Rc} (h:it R F):F.length <= R.length:=by
 have h1:=zaa (F.map (fun x=>x.s.data.toList)) (R.map (fun x=>x.s.data.toList)) (by
  refine List.pairwise_map.2 (h.1.imp fun {a b} dW e=>?_)
  have e2:a.s=b.s:=by cases ha:a.s;cases hb:b.s;rw [ha,hb] at e;simpa using e
  rw [e2] at dW
  exact absurd dW (by unfold eH;rw [zdF];decide)) (fun x hx=>by
  obtain ⟨f,hf,rfl⟩:=List.mem_map.1 hx;obtain ⟨r,hr,e⟩:=(h.2.1 f hf).1
  exact List.mem_map.2 ⟨r,hr,by rw [e]⟩)
 simpa using h1
theorem zaX {w w':World} {L:List K.En} {n:Nat} {ao:Option Addr} {c:Nat} (hn:L.length=n) (hs:∀ e∈L,e.sku.size <= maxLen) (hb:n <= 3518437208883) (O:K.cY w.heap.size w.heap.size w w' ao c L):K.aF w' ao n c L/\∀ ad,ao=some ad -> w.heap.size <= ad.block:=by
 have h:=O.src hs (by omega);rw [hn] at h;exact h
theorem ws (ao bo:Option Addr) (n cap m cap':Nat) (L:List K.En) (R:List Rc) (w:World) (hS:K.aF w ao n cap L) (hR:RcS w bo m cap' R) (oz:∀ s,wt (ofS R s) <= 8796093022207) (lC:m * (n+1) <= 8796093022207) :
  Calls Tryz.prog 43 #[.slice ao n cap,.slice bo m cap'] w fun x w'=>ApA w w' x L R m:=by
 have HS:=hide hS;have HR:=hide hR;have HW:=hide oz;have sX:=hide lC;have HL:Hid (L.length=n/\n <= 3518437208883):=⟨hS.1,hS.2.2.2.2⟩;have Av:=HL.out.2;have HM:Hid (R.length=m):=hR.len;clear hS hR oz lC;go_enter Tryz.func43,Tryz.ntmps43;go_wp2_with fail;refine (K.qu ao n cap L _ HS.out).mono ?_;rintro x w1 ⟨rfl,b1⟩;have aW:=hide b1;have ei:=hide (HS.out.below b1);have oo:=hide (HR.out.below b1);clear b1 HS HR;rcases K.wn L with hc | hc;rotate_left
 ·have HE:Hid (ApA w w1 (.returned (.tuple #[.slice none 0 0,.int .i64 1])) L R m):=.inr ⟨fun h=>(by rw [hc] at h;cases h.1),_,_,_,rfl,K.aF.none _,aW.out,fun ad h=>by cases h⟩;rw [hc];clear hc;go_wp2_with fail;go_ret2;exact HE.out
 ·rw [hc];have HC:=hide hc;clear hc;go_wp2_with fail;refine (zeK bo m cap' R _ oo.out HW.out).mono ?_;rintro x w2 (⟨hO,⟨qo,qn,qc⟩,F,rfl,S2,b2,-,hF⟩ | ⟨hO,rfl,b2⟩);rotate_left
  ·have HE:Hid (ApA w w2 (.returned (.tuple #[.slice none 0 0,.int .i64 1])) L R m):=.inr ⟨fun h=>hO h.2,_,_,_,rfl,K.aF.none _,aW.out.trans (b2.mono aW.out.size),fun ad h=>by cases h⟩;clear hO b2;go_wp2_with fail;go_ret2;exact HE.out
  ·rw [show HsV ⟨qo,qn,qc⟩=Value.slice qo qn qc from rfl];replace S2:RcS w2 qo qn qc F:=S2;have HO:=hide hO;have cd:=wTr aW b2;have eM:=hide (ei.out.below b2);have HF:=hide hF;have EP:=hide S2;have Dl:Hid (F.length=qn):=S2.len;have NH:=S2.big
   have LK:Hid (qn <= m):=by show _ <= _;rw [<- Dl.out,<- HM.out];exact zeJ hF
   clear hO b2 ei aW oo hF S2;by_cases hq0:qn=0
   ·have LF:((qn:Int) == 0)=true:=by simp [hq0]
    have sT:F=[]:=List.eq_nil_of_length_eq_zero (Dl.out.trans hq0)
    have Ki:Hid (L.filter (cN R)=L):=by show _=_;exact zeG HC.out (sT ▸ HF.out)
    clear sT
    cases ao with
    | none =>
     have eU:=eM.out.2.1 rfl;obtain ⟨rfl,rfl⟩:=eU;go_wp2_with fail;refine (K.zdB _).mono ?_;rintro x w3 ⟨rfl,rfl⟩;have HE:Hid (ApA w w3 (.returned (.tuple #[.slice none 0 0,.int .i64 0])) L R m):=.inl ⟨HC.out,HO.out,none,0,0,rfl,by rw [Ki.out];exact eM.out,cd.out,fun ad h=>by cases h⟩;go_wp2_with fail;go_ret2;exact HE.out
    | some ad =>
     go_wp2_with fail;refine (K.zdC ad n cap L _ eM.out).mono ?_;rintro x w3 ⟨a3,c3,rfl,O3⟩;have h3:=zaX HL.out.1 eM.out.2.2.2.1 HL.out.2 O3;have HE:Hid (ApA w w3 (.returned (.tuple #[.slice a3 n c3,.int .i64 0])) L R m):=.inl ⟨HC.out,HO.out,a3,n,c3,rfl,by rw [Ki.out];exact h3.1,cd.out.trans (O3.below.mono cd.out.size),fun ad h=>Nat.le_trans cd.out.size (h3.2 ad h)⟩;clear O3 h3;go_wp2_with fail;go_ret2;exact HE.out
   ·have LF:((qn:Int) == 0)=false:=by simp [hq0]
    have pY:Hid (∀ e∈L,¬ e.sku.size=0):=fun e he=>zfE (xN HC.out e he);go_wp2_with fail;refine (zcf ao n cap L _ eM.out pY.out).mono ?_;rintro x w3 ⟨kk,rfl,hM⟩;obtain ⟨K0,f,M3⟩:=hM;have JJ:=hide M3;have aN:=wTr cd M3.below;have rD:=hide (eM.out.below M3.below);have sl:=hide (EP.out.below M3.below);obtain ⟨b,Hb⟩:∃ b,Hid (w2.heap.size=b):=⟨_,rfl⟩;rw [Hb.out];clear M3 eM EP cd;go_wp2_with fail;go_loopw [10,35] (fun v i wr=>∃ (k:Nat) (x:Hs),k <= qn/\v = .slice x.o x.n x.c/\i = .int .i64 (k:Int)/\Hid (∃ X:List Pv,gH w3.heap.size w3 wr x X/\(∀ p∈X,dU x p)/\BX L (F.take k) X/\x.n=k)) (fun _ i _=>qn - (intOf i).toNat)
    case atStart=>exact ⟨0,hs0,Nat.zero_le _,rfl,rfl,⟨[],gH.nil w3,fun p h=>(by cases h),BX.nil L,rfl⟩⟩
    case round =>
     obtain ⟨k,x,hk,rfl,rfl,HX⟩:=hrel
     rename World=>wr
     by_cases aq:k < qn
     ·have dl:(k:Int) < (qn:Int):=by omega
      obtain ⟨X,O,AT,uq,Ee⟩:=HX.out;obtain ⟨ad,fl,A0⟩:=(sl.out.below O.below).at k aq;have lZ:=(sl.out.below O.below).okAt k aq;have HT:=hide (wL F k (by rw [Dl.out];exact aq));obtain ⟨r,Hr⟩:∃ r,Hid (F.getD k rc0=r):=⟨_,rfl⟩;rw [Hr.out] at A0 lZ HT;have gL:=lZ.2;have dz:=zI A0;obtain ⟨g7,fT⟩:∃ g7,wr.heap.size=g7:=⟨_,rfl⟩;obtain ⟨w7,cr,X7,B7,S7⟩:=dY wr (mkR r) g7 fT;have O7:=(O.later B7).later (zd w7);have M7:=((JJ.out.later O.below).later B7).later (zd w7)
      have l0:(Instr.lookup 119 (.map (some b)) (.string r.s) false).run Tryz.prog w7.drew = .ok (.slice (f r.s).o (f r.s).n (f r.s).c) w7.drew:=by
       have:=M7.look pE Tryz.underlying9 Tryz.underlying119 (mT _) r.s gL;rwa [Hb.out] at this
      have EL:=M7.len r.s;have KO:=ku L r.s
      have KR:Hid (aU w7.drew (f r.s).o (f r.s).n (f r.s).c (cV L r.s)):=by
       have h:=M7.rows r.s
       have e:(HsV (f r.s)) = .slice (f r.s).o (cV L r.s).length (f r.s).c:=by show Value.slice _ _ _=_;rw [EL]
       rw [e,EL] at h;have:=(ez.src (B0:=w2.heap.size) ⟨h,M7.below,M7.hb.2.2,by omega⟩ (by have:=HL.out;omega)).1
       show aU _ _ _ _ _
       rw [EL];exact this
      have aw:Hid (∀ W:World,W.heap[g7]? = w7.heap[g7]? -> W.cell? ⟨g7,0,none⟩=some (.string r.s)/\(ldP (.pointer (some ⟨g7,1,none⟩))).run Tryz.prog W = .ok (.agg #[.slice r.p.vo r.p.vn r.p.vc,.slice r.p.co r.p.cn r.p.cc]) W):=fun W h=>by
       have X:aY W g7 (mkR r):=h.trans X7;exact ⟨X.sk,zi X.past⟩
      have I8:Hid (g7 < w7.heap.size):=by show _ < _;omega
      have cj:=hide aq;have mw:=hide O7;have Ff:=hide AT;have td:=hide uq;have IS:Hid (x.n=k/\k <= 2199023255552):=⟨Ee,by omega⟩;have Bj:Hid (ak w7.drew r.p):=((lZ.1.below B7).below (zd w7))
      have Jx:Hid (∀ j,(HsV x).ownBlock=some j -> j < g7):=fun j hj=>by have:=(O.own.lt j hj).2;omega
      subst fl;clear A0 X7 B7 S7 M7 O7 O AT uq aq hk lZ EL KO Ee HX;go_upto_region 14 with fail;clear cr dz;refine wp_region_held_drew (S:=fun W=>W.cell? ⟨g7,0,none⟩=some (.string r.s)/\(ldP (.pointer (some ⟨g7,1,none⟩))).run Tryz.prog W = .ok (.agg #[.slice r.p.vo r.p.vn r.p.vc,.slice r.p.co r.p.cn r.p.cc]) W) (by kernel_rfl) (aw.out _ rfl) (fun hHeld=>?_);refine wU 0 ?_;refine wU 1 ?_;refine wU 2 ?_;refine wU 3 ?_;refine wU 6 ?_;refine wU 7 ?_;refine wR 4 fun K hK=>?_;go_simp;refine hK.out _ _ (aw.out _ rfl) (fun hHeld=>?_);clear hK K;refine wR 5 fun K hK=>?_;go_simp;go_wp2_with fail;refine (vS (f r.s).o (f r.s).n (f r.s).c (cV L r.s) _ KR.out).mono ?_;rintro e w8 ⟨pd,rfl,Sd,-,b8,Cd⟩;have iU:=hide (mw.out.later b8)
      have Kz:=hide (Bj.out.below b8);have z8:w8.heap[g7]? = w7.heap[g7]?:=b8.block g7 I8.out;have Gm:=hide z8;have GQ:Hid (g7 < w8.heap.size):=Nat.lt_of_lt_of_le I8.out b8.size;have B9:=hide Sd;have GW:=hide Cd;refine hK.out _ _ (aw.out _ z8) (fun hHeld=>?_);clear hK K;clear b8 z8 Sd Cd mw Bj l0;refine wR 8 fun K hK=>?_;go_simp;go_wp2_with fail;refine (bV pd r.p _ B9.out Kz.out).mono ?_;rintro e w9 ⟨pm,rfl,Sm,Nm,b9,Cm⟩;have uD:=hide (iU.out.later b9);have z9:w9.heap[g7]? = w7.heap[g7]?:=(b9.block g7 GQ.out).trans Gm.out;have iH:=hide z9;have pV:Hid (g7 < w9.heap.size):=Nat.lt_of_lt_of_le GQ.out b9.size;have LG:=hide Sm;have GL:Hid (dU x pm):=fun j hj=>df.new Nm (by have:=Jx.out j hj;have:=GQ.out;omega)
      have K4:Hid (BX L (F.take (k+1)) (X++[pm])):=by show BX _ _ _;rw [HT.out];exact td.out.snoc GW.out Cm
      refine hK.out _ _ (aw.out _ z9) (fun hHeld=>?_);clear hK K;clear b9 z9 Sm Nm Cm iU Kz;obtain ⟨ga,ca,wa,BV,Oa,Fa,ka⟩:=uD.out.app Ff.out pm LG.out GL.out (by have:=IS.out;omega);have EM:Hid ((Builtin.append_ #[110,110] 110 #[.slice x.o x.n x.c,.slice (some ⟨w9.heap.size,0,none⟩) 1 1]).run Tryz.prog (w9.alloc (.cells #[.slice pm.vo pm.vn pm.vc,.slice pm.co pm.cn pm.cc] 26)) = .ok (.slice (some ⟨ga,0,none⟩) (x.n+1) ca) wa):=BV;have zA:(w9.alloc (.cells #[.slice pm.vo pm.vn pm.vc,.slice pm.co pm.cn pm.cc] 26)).heap[g7]? = w7.heap[g7]?:=(Below.heap_alloc w9 _ g7 pV.out).trans iH.out;have za:wa.heap[g7]? = w7.heap[g7]?:=(ka g7 pV.out (fun e=>by have:=Jx.out g7 e;omega)).trans iH.out;have tP:Hid (∃ X:List Pv,gH w3.heap.size w3 wa ⟨some ⟨ga,0,none⟩,x.n+1,ca⟩ X/\(∀ p∈X,dU ⟨some ⟨ga,0,none⟩,x.n+1,ca⟩ p)/\BX L (F.take (k+1)) X/\x.n+1=k+1):=⟨_,Oa,Fa,K4.out,by rw [IS.out.1]⟩
      clear BV Oa Fa ka;refine wR 9 fun K hK=>?_;go_simp;refine hK.out _ _ (aw.out _ zA) (fun hHeld=>?_);clear hK K;refine wR 10 fun K hK=>?_;refine qe (by rfl) (.tmp 39) (.tmp 48) (by rfl) (by rfl) (by rfl) EM.out ?_;refine hK.out _ _ (aw.out _ za) (fun hHeld=>?_);clear hK K;refine wU 11 ?_;refine wD ?_ _;clear hHeld;clear zA za;go_wp2_with fail;go_roundw
      case rel=>exact ⟨k+1,⟨some ⟨ga,0,none⟩,x.n+1,ca⟩,cj.out,rfl,by simp,tP⟩
      case measure=>simp [intOf];have:=cj.out;omega
     ·have dl:¬ (k:Int) < (qn:Int):=by omega
      obtain ⟨X,O,-,uq,Ee⟩:=HX.out;have hT:F.take k=F:=List.take_of_length_le (by have:=Dl.out;omega);rw [hT] at uq;have td:=hide uq;have HP:Hid (eT wr x.o x.n X):=O.row
      have LD:Hid (wt X <= 8796093022207):=by
       show _ <= _
       have h1:=uq.2;rw [Dl.out,HL.out.1] at h1;have h2:=Nat.mul_le_mul_right (n+1) LK.out;have h3:=sX.out;omega
      have KP:x.n <= 8796093022207:=by omega
      have su:=wTr aN O.below;have Bo:=hide (rD.out.below O.below);clear O uq hT Ee HX hk aq;go_wp2_with fail;refine (qz x.o x.n x.c X _ HP.out LD.out KP).mono ?_;rintro e w8 ⟨pj,rfl,Sj,-,b8,Cj⟩;have iz:=wTr su b8;have MN:=hide (Bo.out.below b8);have ts:=hide Sj;have Dn:=hide Cj;clear b8 Sj Cj su Bo;go_wp2_with fail;refine (jh ao n cap L pj _ MN.out ts.out).mono ?_;rintro e w9 (⟨-,-,a9,n9,c9,rfl,S9,b9,N9⟩ | ⟨hno,-⟩);rotate_left
      ·exact absurd ⟨HC.out,zz.1 Dn.out.canon⟩ hno
      ·have HE:Hid (ApA w w9 (.returned (.tuple #[.slice a9 n9 c9,.int .i64 0])) L R m):=.inl ⟨HC.out,HO.out,a9,n9,c9,rfl,by rw [<- zdn HC.out HF.out td.out Dn.out];exact S9,iz.out.trans (b9.mono iz.out.size),fun ad h=>Nat.le_trans iz.out.size (N9 ad h)⟩;clear S9 b9 N9;go_wp2_with fail;go_ret2;exact HE.out
end
end Go.Proofs.YtcilfelgpmfehaaGreat
