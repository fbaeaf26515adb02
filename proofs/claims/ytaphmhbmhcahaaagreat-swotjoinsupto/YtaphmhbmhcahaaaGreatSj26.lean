/- ODt BDs LSp BBx BAq SXc -/
import Derived.Test.YtaphmhbmhcahaaaGreatTk
import Derived.Test.YtaphmhbmhcahaaaGreatSj15
import Derived.Test.YtaphmhbmhcahaaaGreatSj14
import Derived.Test.YtaphmhbmhcahaaaGreatSj16
import Derived.Deep.CutRange
import Derived.Test.YtaphmhbmhcahaaaGreatSj20
import Derived.Test.YtaphmhbmhcahaaaGreatSj23
import Derived.Test.YtaphmhbmhcahaaaGreatSj25
set_option maxRecDepth 100000
set_option maxHeartbeats 6400000
namespace Go.Proofs.YtaphmhbmhcahaaaGreat
section
open Go.RowKit
attribute [local go_sem ↓] ldP_eq stP_eq ldD_eq stD_eq K.ld28_eq K.st28_eq
attribute [local go_sem] cells_PV PC_size
variable {w w' w2 W W' : World} {g : Nat}

def dotOf (e:K.En):Rn:=⟨e.rep,e.num⟩
def DtA (w w':World) (x:Ending) (L:List K.En):Prop:=Below w.heap.size w w'/\((K.chk L=0/\∃ p:Pv,x = .returned (.tuple #[PV p,.int .i64 0])/\PSrc w' p/\PNew w.heap.size p/\CanonOf (dotsG (L.map dotOf)) p.P)∨(¬ K.chk L=0/\x = .returned (.tuple #[PV pv0,.int .i64 1])))
theorem res2Pn {fn:Func} {p q:Tmp} {m:Pv} {v:Value} (h:fn.results=#[.cell p 26,.tmp q]) {tmps:Array Value} (hp:tmps.getD p undef = .pointer (some ⟨g,0,none⟩)) (hq:tmps.getD q undef=v) (A:PBox w g m) :
  (results fn tmps).run Tryz.prog w = .ok (.tuple #[PV m,v]) w:=by
 have hl:=run_lvP A.at
 simp only [results,h];rw [Array.getD_eq_getD_getElem?] at hp hq;simp [hp,hq,asAddr,hl]
theorem dots_any (ao:Option Addr) (n cap:Nat) (L:List K.En) (w:World) (hS:K.ESrc w ao n cap L):Calls Tryz.prog 52 #[.slice ao n cap] w fun x w'=>DtA w w' x L:=by
 have b1:=below_new w (.cells #[.slice none 0 0,.slice none 0 0] 26);have x1:PBox (w.alloc (.cells #[.slice none 0 0,.slice none 0 0] 26)) w.heap.size pv0:=pbox_new w pv0;obtain ⟨w1,hw1⟩:∃ w1,w.alloc (.cells #[.slice none 0 0,.slice none 0 0] 26)=w1:=⟨_,rfl⟩;obtain ⟨g1,hg1⟩:∃ g1,w.heap.size=g1:=⟨_,rfl⟩;rw [hw1] at b1 x1;rw [hg1] at x1;have HX:Hid (PBox w1 g1 pv0/\K.ESrc w1 ao n cap L/\Below w.heap.size w w1/\w.heap.size=g1):=⟨x1,hS.below b1,b1,hg1⟩;have HL:Hid (L.length=n/\n <= 3518437208883):=⟨hS.1,hS.2.2.2.2⟩;have hnb:=HL.out.2;clear b1 x1 hS;go_enter Tryz.func52,Tryz.ntmps52;go_wp2_with fail;clear hw1 hg1;refine (K.lcheck_any ao n cap L _ HX.out.2.1).mono ?_;rintro x w2 ⟨rfl,b2⟩;have HB2:=hide (HX.out.2.2.1.trans (b2.mono HX.out.2.2.1.size));have HX2:Hid (PBox w2 g1 pv0/\K.ESrc w2 ao n cap L/\w.heap.size=g1):=⟨HX.out.1.below b2,HX.out.2.1.below b2,HX.out.2.2.2⟩
 clear b2 HX;rcases K.chk_cases L with hc | hc;rotate_left
 ·have HE:Hid (DtA w (w2.setRow g1 (PC pv0)) (.returned (.tuple #[PV pv0,.int .i64 1])) L):=⟨below_setRow HB2.out (by have:=HX2.out.2.2;omega),.inr ⟨by rw [hc];decide,rfl⟩⟩;have t6:(stP (.pointer (some ⟨g1,0,none⟩)) (.agg #[.slice none 0 0,.slice none 0 0])).run Tryz.prog w2 = .ok () (w2.setRow g1 (PC pv0)):=run_stP (p':=pv0) HX2.out.1;have HX0:Hid (PBox (w2.setRow g1 (PC pv0)) g1 pv0):=setRow_heap _ _ _ _ _ _ HX2.out.1;rw [hc];clear hc;go_wp2_with fail;refine bodyPost_ret (res2Pn rfl rfl rfl HX0.out) rfl ?_;exact HE.out
 ·rw [hc];have HC:=hide hc;clear hc;go_wp2_with fail;go_loopw [5,16] (fun v i wr=>∃ (k:Nat) (ap:Option Addr) (c:Nat),k <= n/\v = .slice ap k c/\i = .int .i64 (k:Int)/\Hid (OwnD w2.heap.size w2.heap.size w2 wr ap c ((L.take k).map dotOf))) (fun _ i _=>n - (intOf i).toNat)
  case atStart=>exact ⟨0,none,0,Nat.zero_le _,rfl,rfl,World.ownsRow_nil _ _ _ _,Below.refl _ _,Nat.le_refl _,Nat.le_refl _⟩
  case round =>
   obtain ⟨k,ap,c,hk,rfl,rfl,HO⟩:=hrel
   rename World=>wr
   obtain ⟨acc,Hacc⟩:∃ acc,Hid ((L.take k).map dotOf=acc):=⟨_,rfl⟩
   have Hal:Hid (acc.length=k):=by show _=_;rw [<- Hacc.out,List.length_map,List.length_take];have:=HL.out.1;omega
   rw [Hacc.out] at HO;by_cases hlt:k < n
   ·have hlti:(k:Int) < (n:Int):=by omega
    obtain ⟨ad,hao,A0⟩:=(HX2.out.2.1.below HO.out.below).at k hlt;subst hao;obtain ⟨e,He⟩:∃ e,Hid (L.getD k K.en0=e):=⟨_,rfl⟩;rw [He.out] at A0;have hld:=K.run_ld28 A0;have HT:=hide (K.take_snoc L k (by rw [HL.out.1];exact hlt));rw [He.out] at HT
    have HN:Hid ((L.take (k+1)).map dotOf=acc++[dotOf e]):=by show _=_;rw [HT.out,List.map_append,Hacc.out];rfl
    obtain ⟨g7,hg7⟩:∃ g7,wr.heap.size=g7:=⟨_,rfl⟩;obtain ⟨w7,hst,X7,B7,-⟩:=K.made wr e g7 hg7;replace hst:(K.st28 (.pointer (some ⟨g7,0,none⟩)) (K.EV e)).run Tryz.prog (wr.alloc (.cells #[.int .i64 0,.int .i64 0,.string ⟨#[]⟩,.int .i64 0] 66)) = .ok () w7:=hst;have HO7:=hide (HO.out.later B7);have l7:(ldD (.pointer (some ⟨g7,0,none⟩))).run Tryz.prog w7 = .ok (.agg #[.int .i64 e.rep,.int .i64 e.num]) w7:=run_ldD (enc_dot X7);have Hlt:=hide hlt;clear A0 X7 B7 hlt;go_wp2_with (at_builtin;go_loud (refine (HO7.out.later (below_new w7 _)).appendS [dotOf e] (some ⟨w7.heap.size,0,none⟩) 1 1 (lit_rsrc w7 [dotOf e] _ rfl 43 1 rfl (by omega)) (by have:=Hal.out;have:=Hlt.out;omega) rfl (.tmp 20) (.tmp 23) rfl k Hal.out rfl rfl ?_);intro ao8 c8 w8 O8;have HO8:=hide O8;clear O8);clear hst hg7 hld;go_roundw
    case rel=>exact ⟨k+1,ao8,c8,Hlt.out,rfl,by simp,by show OwnD _ _ _ _ _ _ _;rw [HN.out];exact HO8.out⟩
    case measure=>simp [intOf];have:=Hlt.out;omega
   ·have hlti:¬ (k:Int) < (n:Int):=by omega
    obtain rfl:k=n:=by omega
    have HAc:Hid (acc=L.map dotOf):=by show _=_;rw [<- Hacc.out,List.take_of_length_le (by have:=HL.out.1;omega)]
    obtain ⟨hsr,hnw⟩:=HO.out.src (by have:=Hal.out;omega)
    have hsr2:RSrc wr ap k c acc:=by have:=Hal.out;rw [this] at hsr;exact hsr
    have HC7:=hide (pastOfN_any ap k c acc wr hsr2);have HBr:=wTr HB2 HO.out.below;have HXr:=hide (HX2.out.1.below HO.out.below);have HG:Hid (w.heap.size=g1/\g1 < wr.heap.size):=⟨HX2.out.2.2,HXr.out.lt⟩;clear hsr hnw hsr2;go_wp2_with fail;refine HC7.out.mono ?_;rintro x w8 ⟨p,rfl,S8,n8,b8,c8⟩;have X8:=HXr.out.below b8;have t8:=run_stP (p':=p) X8;have HX8:Hid (PBox (w8.setRow g1 (PC p)) g1 p):=setRow_heap _ _ _ _ _ _ X8
    have HE:Hid (DtA w (w8.setRow g1 (PC p)) (.returned (.tuple #[PV p,.int .i64 0])) L):=by
     have hb:=HBr.out.trans (b8.mono HBr.out.size);refine ⟨below_setRow hb (by have:=HG.out;omega),.inl ⟨HC.out,p,rfl,psrc_off S8 (fun ad h=>setRow_other _ _ _ _ (by have:=n8.1 ad h;have:=HG.out;omega)) (fun ad h=>setRow_other _ _ _ _ (by have:=n8.2 ad h;have:=HG.out;omega)),n8.mono (by have:=HG.out;omega),by rw [<- HAc.out];exact c8⟩⟩
    clear S8 n8 b8 c8 X8 HC7;go_wp2_with fail;refine bodyPost_ret (res2Pn rfl rfl rfl HX8.out) rfl ?_;exact HE.out
end
section
open Go.RowKit Go.Maps Go.Sort
attribute [local go_sem ↓] ldD_eq stD_eq K.ld28_eq K.st28_eq
attribute [local go_sem] K.cells_EV K.EC_size
theorem keyS:Keyed Tryz.prog 9:=string_keyed Tryz.underlying9
theorem zeroDs (w:World):(zeroValue 39).run Tryz.prog w = .ok (HsV hs0) w:=by kernel_rfl
def dotsS (L:List K.En) (s:ByteArray):List Rn:=(L.filter (fun e=>decide (s.size=0) || decide (e.sku=s))).map dotOf
theorem dotsS_len (L:List K.En) (s:ByteArray):(dotsS L s).length <= L.length:=by unfold dotsS;rw [List.length_map];exact List.length_filter_le _ _
def nilB:ByteArray:=⟨#[]⟩
theorem nilB_of {s:ByteArray} (h:s.size=0):s=nilB:=by
 obtain ⟨d⟩:=s;have:d=#[]:=Array.eq_empty_of_size_eq_zero h;rw [this];rfl
theorem dotsS_snoc {L:List K.En} {e:K.En} (_:¬ e.sku.size=0) (s:ByteArray) :
  rcs (dotsS (L++[e]) s)=if s=nilB then rcs (dotsS L s)++(RC (dotOf e)).toList else if s=e.sku then rcs (dotsS L s)++(RC (dotOf e)).toList else rcs (dotsS L s):=by
 unfold dotsS;rw [List.filter_append,List.map_append,rcs_append];by_cases h0:s=nilB
 ·subst h0
  have h:List.filter (fun e=>decide (nilB.size=0) || decide (e.sku=nilB)) [e]=[e]:=by simp only [show decide (nilB.size=0)=true from rfl,Bool.true_or,List.filter_cons,List.filter_nil,if_true]
  rw [if_pos rfl,h];simp [rcs_one]
 ·have h1:¬ s.size=0:=fun h=>h0 (nilB_of h);rw [if_neg h0];by_cases h2:s=e.sku
  ·subst h2;simp [h1,rcs_one]
  ·have h3:¬ e.sku=s:=fun h=>h2 h.symm;simp [h1,h2,h3,rcs]
def MD (w W:World) (kk:Nat) (L:List K.En):Prop:=∃ K f,MRo Tryz.prog 9 43 2 (w.heap.size+1) w W w.heap.size kk K f (fun s=>rcs (dotsS L s))
theorem md_app {w W:World} {b B k:Nat} {K:ByteArray -> Prop} {f:ByteArray -> Hs} {X:ByteArray -> List Value} (M:MRo Tryz.prog 9 43 2 B w W b k K f X) (s:ByteArray) (d:Rn) (hn:(f s).n <= 8000000000000) :
  ∃ g c2 W2,(Builtin.append_ #[39,39] 39 #[HsV (f s),.slice (some ⟨W.heap.size,0,none⟩) 1 1]).run Tryz.prog (W.alloc (.cells (RC d) 43)) = .ok (.slice (some ⟨g,0,none⟩) ((f s).n+1) c2) W2/\MRm Tryz.prog 9 43 2 B w W2 b k K f X s ⟨some ⟨g,0,none⟩,(f s).n+1,c2⟩ (X s++(RC d).toList)/\∀ q,q < W.heap.size -> (HsV (f s)).ownBlock≠some q -> W2.heap[q]? = W.heap[q]?:=by
 obtain ⟨i0,hi,hz0,hz1,hz2⟩:=info_parts infoD
 obtain ⟨g,c2,W2,h1,h2,h3⟩:=(M.later (below_new W (.cells (RC d) 43))).app s (ty:=39) Tryz.underlying39 hi hz0 hz1 hz2 (by simp [Value.cells]) (by decide) ⟨W.heap.size,0,none⟩ 1 (RC d).toList rfl (fun j u hj=>by
  rw [Addr.add_lit,Nat.zero_add,World.cell?_alloc_new]
  simpa using hj) (RC_one d) (by unfold maxLen;omega) (by omega)
 exact ⟨g,c2,W2,h1,h2,fun q hq hn=>(h3 q (by simp;omega) hn).trans (Below.heap_alloc W _ q hq)⟩
theorem MRo.len {w W:World} {b B k:Nat} {K0:ByteArray -> Prop} {f:ByteArray -> Hs} {L:List K.En} (M:MRo Tryz.prog 9 43 2 B w W b k K0 f (fun s=>rcs (dotsS L s))) (s:ByteArray):(f s).n=(dotsS L s).length:=by
 have h:=(M.rows s).1;rw [rcs_length] at h;omega
theorem dotsBy_any (ao:Option Addr) (n cap:Nat) (L:List K.En) (w:World) (hS:K.ESrc w ao n cap L) (hne:∀ e∈L,¬ e.sku.size=0) :
  Calls Tryz.prog 78 #[.slice ao n cap] w fun x w'=>∃ kk,x = .returned (.map (some w.heap.size))/\MD w w' kk L:=by
 have HS:=hide hS;have HL:Hid (L.length=n):=hS.1;have hn:=hS.2.2.2.2;have HNE:=hide hne;have hmm:=@run_makeMap Tryz.prog;obtain ⟨w1,hw1⟩:∃ w1,w.alloc (.map #[] 0)=w1:=⟨_,rfl⟩;obtain ⟨b,hb⟩:∃ b,w.heap.size=b:=⟨_,rfl⟩;have HM0:Hid (MD w w1 0 []):=⟨_,_,hw1 ▸ MRo.start w⟩;have Hb:=hide hb;clear hS hne;go_enter Tryz.func78,Tryz.ntmps78;go_wp2_with fail;clear hw1 hb;go_loopw [9] (fun i wr=>∃ k:Nat,k <= n/\i = .int .i64 (k:Int)/\Hid (MD w wr (2 * k) (L.take k))) (fun i _=>n - (intOf i).toNat)
 case atStart=>exact ⟨0,Nat.zero_le _,rfl,HM0⟩
 case round =>
  obtain ⟨k,hk,rfl,HM⟩:=hrel
  rename World=>wr
  clear HM0;by_cases hlt:k < n
  ·have hlti:(k:Int) < (n:Int):=by omega
   obtain ⟨K0,f,M⟩:=HM.out;obtain ⟨ad,hao,A0⟩:=(HS.out.below M.below).at k hlt;subst hao;obtain ⟨e,He⟩:∃ e,Hid (L.getD k K.en0=e):=⟨_,rfl⟩;have hsk:=HS.out.sku k hlt;have HT:=hide (K.take_snoc L k (by rw [HL.out];exact hlt));have hee:¬ (L.getD k K.en0).sku.size=0:=HNE.out _ (by rw [List.getD_eq_getElem?_getD,List.getElem?_eq_getElem (by rw [HL.out];exact hlt)];exact List.getElem_mem _);rw [He.out] at A0 hsk HT hee;have HEE:=hide hee;have hld:=K.run_ld28 A0;obtain ⟨g7,hg7⟩:∃ g7,wr.heap.size=g7:=⟨_,rfl⟩;obtain ⟨w7,hst,X7,B7,S7⟩:=K.made wr e g7 hg7;replace hst:(K.st28 (.pointer (some ⟨g7,0,none⟩)) (K.EV e)).run Tryz.prog (wr.alloc (.cells #[.int .i64 0,.int .i64 0,.string ⟨#[]⟩,.int .i64 0] 66)) = .ok () w7:=hst;have M7:=(M.later B7).later (below_drew1 w7)
   have hnl:∀ s,(f s).n <= 8000000000000:=fun s=>by rw [M.len s];have h1:=dotsS_len (L.take k) s;have h2:=List.length_take_le k L;omega
   have hoff:∀ s,(HsV (f s)).ownBlock≠some g7:=fun s h=>by have:=((M.rows s).lt g7 h).2;omega
   have HL0:Hid (∀ W,Below w7.drew.heap.size w7.drew W -> (Instr.lookup 118 (.map (some b)) (.string e.sku) false).run Tryz.prog W = .ok (HsV (f e.sku)) W):=fun W hW=>by
    have:=(M7.later hW).look keyS Tryz.underlying9 Tryz.underlying118 (zeroDs W) e.sku hsk;rwa [Hb.out] at this
   obtain ⟨g8,c8,w8,ha8,M8,k8⟩:=md_app M7 e.sku (dotOf e) (hnl _);obtain ⟨w9,hu9,M9,k9⟩:=M8.put keyS Tryz.underlying9 Tryz.underlying118 hsk (by unfold maxLen;omega);rw [Hb.out] at hu9 k9
   have hgb:g7≠b:=by have:=M.hb;rw [Hb.out] at this;omega
   have z7:w7.drew.heap[g7]? = w7.heap[g7]?:=rfl;have z8:w8.heap[g7]? = w7.heap[g7]?:=k8 g7 (show g7 < w7.heap.size by omega) (hoff _);have z9:w9.heap[g7]? = w7.heap[g7]?:=(k9 g7 (Nat.lt_of_lt_of_le (show g7 < w7.heap.size by omega) (by have:=M8.hb.2.2;have:=(Array.getElem?_eq_some_iff.1 (z8.trans X7)).1;omega)) hgb).trans z8
   have HSt:Hid (∀ W:World,W.heap[g7]? = w7.heap[g7]? -> W.cell? ⟨g7,2,none⟩=some (.string e.sku)/\(ldD (.pointer (some ⟨g7,0,none⟩))).run Tryz.prog W = .ok (.agg #[.int .i64 e.rep,.int .i64 e.num]) W):=fun W h=>by
    have X:K.Box W g7 66 e:=h.trans X7;exact ⟨X.at.c2,run_ldD (enc_dot X)⟩
   have HZ:Hid (w8.heap[g7]? = w7.heap[g7]? /\ w9.heap[g7]? = w7.heap[g7]?):=⟨z8,z9⟩;have HZA:Hid ((w7.drew.alloc (.cells #[.int .i64 e.rep,.int .i64 e.num] 43)).heap[g7]? = w7.heap[g7]?):=Below.heap_alloc w7.drew _ g7 (show g7 < w7.heap.size by omega);have l0:=HL0.out w7.drew (Below.refl _ _);have l1:=HL0.out _ (below_new w7.drew (.cells #[.int .i64 e.rep,.int .i64 e.num] 43));have l2:(Instr.lookup 118 (.map (some b)) (.string e.sku) false).run Tryz.prog (w7.alloc (.cells #[.int .i64 e.rep,.int .i64 e.num] 43)).drew = .ok (HsV (f e.sku)) (w7.drew.alloc (.cells #[.int .i64 e.rep,.int .i64 e.num] 43)):=l1
   obtain ⟨K1,f1,X1,M9',hX1⟩:∃ K1 f1 X1,MRo Tryz.prog 9 43 2 (w.heap.size+1) w w9 w.heap.size (2 * k+1) K1 f1 X1/\∀ s,X1 s=if s=e.sku then rcs (dotsS (L.take k) s)++(RC (dotOf e)).toList else rcs (dotsS (L.take k) s):=⟨_,_,_,M9,fun s=>by
    by_cases h:s=e.sku
    ·subst h;simp
    ·simp [h]⟩
   have hn1:(f1 nilB).n <= 8000000000000:=by
    have h:=(M9'.rows nilB).1;have h1:=dotsS_len (L.take k) nilB;have h2:=List.length_take_le k L;rw [hX1] at h
    split at h
    ·rw [List.length_append,rcs_length] at h;have:(RC (dotOf e)).toList.length=2:=rfl;omega
    ·rw [rcs_length] at h;omega
   have l3:=M9'.look keyS Tryz.underlying9 Tryz.underlying118 (zeroDs w9) nilB (by decide);rw [Hb.out] at l3;obtain ⟨ga,ca,wa,haa,Ma,ka⟩:=md_app M9' nilB (dotOf e) hn1;obtain ⟨wb,hub,Mb,kb⟩:=Ma.put keyS Tryz.underlying9 Tryz.underlying118 (by decide) (by unfold maxLen;omega);rw [Hb.out] at hub;have HL3:Hid ((Instr.lookup 118 (.map (some b)) (.string ⟨#[]⟩) false).run Tryz.prog w9 = .ok (.slice (f1 nilB).o (f1 nilB).n (f1 nilB).c) w9):=l3;have HUB:Hid ((Instr.mapUpdate 118 (.map (some b)) (.string ⟨#[]⟩) (.slice (some ⟨ga,0,none⟩) ((f1 nilB).n+1) ca)).run Tryz.prog wa = .ok () wb):=hub;have HAA:Hid ((Builtin.append_ #[39,39] 39 #[.slice (f1 nilB).o (f1 nilB).n (f1 nilB).c,.slice (some ⟨w9.heap.size,0,none⟩) 1 1]).run Tryz.prog (w9.alloc (.cells #[.int .i64 e.rep,.int .i64 e.num] 43)) = .ok (.slice (some ⟨ga,0,none⟩) ((f1 nilB).n+1) ca) wa):=haa
   have HMb:Hid (MD w wb (2 * (k+1)) (L.take (k+1))):=by
    have hX:(fun s=>rcs (dotsS (L.take (k+1)) s))=fun u=>if u=nilB then X1 nilB++(RC (dotOf e)).toList else X1 u:=by
     funext s
     rw [HT.out,dotsS_snoc hee s,hX1 s,hX1 nilB];have h0:¬ nilB=e.sku:=fun h=>hee (by rw [<- h];rfl);by_cases h1:s=nilB
     ·subst h1;simp [h0]
     ·simp [h1]
    have h:=Mb;rw [<- hX] at h;exact ⟨_,_,h⟩
   have Hlt:=hide hlt;have HA8:Hid ((Builtin.append_ #[39,39] 39 #[.slice (f e.sku).o (f e.sku).n (f e.sku).c,.slice (some ⟨w7.heap.size,0,none⟩) 1 1]).run Tryz.prog (w7.drew.alloc (.cells #[.int .i64 e.rep,.int .i64 e.num] 43)) = .ok (.slice (some ⟨g8,0,none⟩) ((f e.sku).n+1) c8) w8):=ha8;clear A0 X7 B7 S7 M M7 M8 M9 M9' hX1 hn1 l3 haa Ma ka hub Mb kb k8 k9 z7 z8 z9 ha8 hlt hk;go_upto_region 5 with fail;clear hst hld;refine wp_region_held_drew (S:=fun W=>W.cell? ⟨g7,2,none⟩=some (.string e.sku)/\(ldD (.pointer (some ⟨g7,0,none⟩))).run Tryz.prog W = .ok (.agg #[.int .i64 e.rep,.int .i64 e.num]) W) (by kernel_rfl) (HSt.out _ rfl) (fun hHeld=>?_);refine wU 0 ?_;refine wU 1 ?_;refine wU 2 ?_;refine wU 3 ?_;refine wU 4 ?_;refine wU 5 ?_;refine wU 7 ?_;refine wU 8 ?_;refine wpAnyH_ready (rs:=[6,9]) (by kernel_rfl) (by simp) ?_;refine AllReadyH.cons rfl (fun K hK=>?_) ?_
   ·go_simp;refine hK.out _ _ (HSt.out _ rfl) (fun hHeld=>?_);clear hK K;refine wpAnyH_ready (rs:=[9]) (by kernel_rfl) (by simp) (.cons rfl (fun K hK=>?_) .nil);go_simp;refine hK.out _ _ (HSt.out _ HZA.out) (fun hHeld=>?_);clear hK K;refine wpAnyH_ready (rs:=[10]) (by kernel_rfl) (by simp) (.cons rfl (fun K hK=>?_) .nil);refine step_appM (by rfl) (.tmp 19) (.tmp 22) (by rfl) (by rfl) (by rfl) HA8.out ?_;refine hK.out _ _ (HSt.out _ HZ.out.1) (fun hHeld=>?_);clear hK K;refine wpAnyH_ready (rs:=[11]) (by kernel_rfl) (by simp) (.cons rfl (fun K hK=>?_) .nil);go_simp;refine hK.out _ _ (HSt.out _ HZ.out.2) (fun hHeld=>?_);clear hK K;refine wpAnyH_done (by kernel_rfl) ?_ _;clear hHeld;have l3:=HL3.out;have u3:=HUB.out;obtain ⟨-,d3⟩:=HSt.out w9 HZ.out.2;clear l0 l1 l2 hu9;go_wp2_with (at_builtin;refine seq_appM rfl (.tmp 26) (.tmp 29) rfl rfl rfl HAA.out ?_)
    go_roundw
    case rel=>exact ⟨k+1,Hlt.out,by simp,HMb⟩
    case measure=>simp [intOf];have:=Hlt.out;omega
   ·refine AllReadyH.cons rfl (fun K hK=>?_) ?_;rotate_left
    ·exact AllReadyH.nil
    go_simp;refine hK.out _ _ (HSt.out _ HZA.out) (fun hHeld=>?_);clear hK K;refine wpAnyH_ready (rs:=[6]) (by kernel_rfl) (by simp) (.cons rfl (fun K hK=>?_) .nil);go_simp;refine hK.out _ _ (HSt.out _ HZA.out) (fun hHeld=>?_);clear hK K;refine wpAnyH_ready (rs:=[10]) (by kernel_rfl) (by simp) (.cons rfl (fun K hK=>?_) .nil);refine step_appM (by rfl) (.tmp 19) (.tmp 22) (by rfl) (by rfl) (by rfl) HA8.out ?_;refine hK.out _ _ (HSt.out _ HZ.out.1) (fun hHeld=>?_);clear hK K;refine wpAnyH_ready (rs:=[11]) (by kernel_rfl) (by simp) (.cons rfl (fun K hK=>?_) .nil);go_simp;refine hK.out _ _ (HSt.out _ HZ.out.2) (fun hHeld=>?_);clear hK K;refine wpAnyH_done (by kernel_rfl) ?_ _;clear hHeld;have l3:=HL3.out;have u3:=HUB.out;obtain ⟨-,d3⟩:=HSt.out w9 HZ.out.2;clear l0 l1 l2 hu9;go_wp2_with (at_builtin;refine seq_appM rfl (.tmp 26) (.tmp 29) rfl rfl rfl HAA.out ?_)
    go_roundw
    case rel=>exact ⟨k+1,Hlt.out,by simp,HMb⟩
    case measure=>simp [intOf];have:=Hlt.out;omega
  ·obtain rfl:k=n:=by omega
   have HE:Hid (∃ kk,MD w wr kk L):=by
    have h:=HM.out;rw [List.take_of_length_le (by have:=HL.out;omega)] at h;exact ⟨_,h⟩
   go_wp2_with fail;go_ret;obtain ⟨kk,h⟩:=HE.out;exact ⟨kk,by rw [Hb.out];rfl,h⟩
end
end Go.Proofs.YtaphmhbmhcahaaaGreat
namespace Go.Proofs.YtaphmhbmhcahaaaGreat.K
open Go.RowKit

theorem chk_asc {R:List En} (ha:Asc R) (hc:∀ e∈R,ceE e=0):chk R=0:=by
 have key:okN R R.length=true:=by
  unfold okN;rw [List.all_eq_true];intro k hk;have hk':=List.mem_range.1 hk;unfold okAt;rw [Bool.and_eq_true];refine ⟨?_,?_⟩
  ·rw [beq_iff_eq];exact hc _ (getD_mem R k hk')
  ·cases k with
   | zero=>rfl
   | succ j =>
    have h:=List.pairwise_iff_getElem.1 ha j (j+1) (by omega) hk' (by omega)
    have e1:R.getD j en0=R[j]:=by simp [List.getD,show j < R.length by omega]
    have e2:R.getD (j+1) en0=R[j+1]:=by simp [List.getD,hk']
    simp only [Nat.add_sub_cancel,e1,e2,h,Bool.or_true]
 unfold chk;rw [if_pos key]
theorem chk_asc' {R:List En} (h:chk R=0):Asc R:=by
 refine asc_of_adj R (fun i hi=>?_);have:=okN_at R _ (chk_zero h) (i+1) hi;unfold okAt at this;rw [Bool.and_eq_true] at this;simpa using this.2
end Go.Proofs.YtaphmhbmhcahaaaGreat.K
namespace Go.Proofs.YtaphmhbmhcahaaaGreat
section
open Go.RowKit
theorem chk_ce {L:List K.En} (h:K.chk L=0):∀ e∈L,K.ceE e=0:=fun e he=>by
 obtain ⟨k,hk,rfl⟩:=List.getElem_of_mem he;have h1:=K.okN_at L _ (K.chk_zero h) k hk;unfold K.okAt at h1;rw [Bool.and_eq_true] at h1
 have e1:L.getD k K.en0=L[k]:=by simp [List.getD,List.getElem?_eq_getElem hk]
 rw [e1] at h1;simpa using h1.1
theorem ce_dot {e:K.En} (h:K.ceE e=0):okD (dotOf e)=true:=by
 unfold K.ceE at h;by_cases h1:K.isR e.rep=false
 ·rw [if_pos h1] at h;cases h
 ·rw [if_neg h1] at h;by_cases h2:e.num < 1∨1000000000 < e.num
  ·rw [if_pos h2] at h;cases h
  ·have h3:K.isR e.rep=true:=by simpa using h1
   unfold okD dotOf V.isR;unfold K.isR at h3;simp only [Bool.and_eq_true,decide_eq_true_eq] at h3 ⊢;exact ⟨h3,by omega,by omega⟩
theorem dot_one {L:List K.En} (h:K.chk L=0) {x y:K.En} (hx:x∈L) (hy:y∈L) (e:dotOf x=dotOf y):x=y:=by
 apply Classical.byContradiction;intro hn;refine K.asc_noclash (K.chk_asc' h) (fun _=>Iff.rfl) ⟨x,hx,y,hy,?_,hn⟩;unfold dotOf at e;simp only [Rn.mk.injEq] at e;simp [K.sameDot,e.1,e.2]
theorem ce_sku {e:K.En} (h:K.ceE e=0):¬ e.sku.size=0:=by
 intro h0
 have hn:e.sku.data.toList=[]:=by
  apply List.eq_nil_of_length_eq_zero;rw [K.len_at];exact h0
 unfold K.ceE at h;by_cases h1:K.isR e.rep=false
 ·rw [if_pos h1] at h;cases h
 ·rw [if_neg h1] at h;by_cases h2:e.num < 1∨1000000000 < e.num
  ·rw [if_pos h2] at h;cases h
  ·rw [if_neg h2,hn] at h
   have hg:K.good ([]:List UInt8)=false:=by decide
   simp [hg] at h
def BX (L:List K.En) (F:List Rc) (X:List Pv):Prop:=(∀ r:Nat,r < 16 -> ∀ m,(∃ p∈X,mem (runsAt p.P r) m)↔∃ f∈F,mem (dotsG (dotsS L f.s) r) m/\mem (runsAt f.p.P r) m)/\wt X <= F.length * (L.length+1)
theorem BX.nil (L:List K.En):BX L [] []:=⟨fun r _ m=>by simp,Nat.zero_le _⟩
theorem BX.snoc {L:List K.En} {F:List Rc} {X:List Pv} (h:BX L F X) {f:Rc} {D:Pst} {p:Pv} (hD:CanonOf (dotsG (dotsS L f.s)) D) (hm:∃ C:Nat -> List Rn,(∀ r,r < 16 -> MeetOf (runsAt D r) (runsAt f.p.P r) (C r))/\CanonOf C p.P):BX L (F++[f]) (X++[p]):=by
 obtain ⟨C,hC,hP⟩:=hm
 have key:∀ r:Nat,r < 16 -> ∀ m,mem (C r) m↔mem (dotsG (dotsS L f.s) r) m/\mem (runsAt f.p.P r) m:=fun r hr m=>by rw [(hC r hr).2 m,canon_mem hD r hr m]
 refine ⟨fun r hr m=>?_,?_⟩
 ·constructor
  ·rintro ⟨q,hq,hm⟩;rcases List.mem_append.1 hq with hq | hq
   ·obtain ⟨g,hg,h1⟩:=(h.1 r hr m).1 ⟨q,hq,hm⟩;exact ⟨g,List.mem_append_left _ hg,h1⟩
   ·obtain rfl:q=p:=by simpa using hq
    rw [canon_mem hP r hr m,key r hr m] at hm;exact ⟨f,by simp,hm⟩
  ·rintro ⟨g,hg,h1⟩;rcases List.mem_append.1 hg with hg | hg
   ·obtain ⟨q,hq,h2⟩:=(h.1 r hr m).2 ⟨g,hg,h1⟩;exact ⟨q,List.mem_append_left _ hq,h2⟩
   ·obtain rfl:g=f:=by simpa using hg
    exact ⟨p,by simp,by rw [canon_mem hP r hr m,key r hr m];exact h1⟩
 ·have h1:p.P.cloud.length <= (dotsS L f.s).length:=canon_count hP _ (fun r hr n hn=>by
   obtain ⟨d,hd,-,e1,e2⟩:=(dotsG_mem _ _ _).1 ((key r hr n).1 hn).1
   have:d=⟨(r:Int),n⟩:=by cases d;simp_all
   rw [<- this];exact hd)
  have h2:=dotsS_len L f.s;have h3:=h.2;rw [wt_append,List.length_append];simp only [wt,List.length_cons,List.length_nil];rw [Nat.add_mul];omega
theorem sku_eq {a b:ByteArray} (h:(a.toList == b.toList)=true):a=b:=by
 rw [beq_iff_eq,ByteArray.toList_eq,ByteArray.toList_eq] at h
 cases a;cases b
 simp at h;rw [h]
theorem sku_refl (a:ByteArray):(a.toList == a.toList)=true:=by simp
theorem nilF_of {s:ByteArray} (h:s.size=0):s=nilF:=by
 obtain ⟨d⟩:=s;have:d=#[]:=Array.eq_empty_of_size_eq_zero h;rw [this];rfl
theorem cov_iff {e:K.En} (he:okD (dotOf e)=true) (r:Rc):covB r e=true↔(r.s=nilF∨r.s=e.sku)/\mem (runsAt r.p.P e.rep.toNat) e.num:=by
 unfold covB;rw [Bool.and_eq_true,inB_iff,Bool.or_eq_true,decide_eq_true_eq]
 have h1:V.isR e.rep=true:=by
  unfold okD dotOf at he;simp only [Bool.and_eq_true] at he;exact he.1
 constructor
 ·rintro ⟨h2,h3⟩;refine ⟨h2.elim (fun h=>.inl (nilF_of h)) (fun h=>.inr (sku_eq h)),h3.2⟩
 ·rintro ⟨h2,h3⟩;refine ⟨h2.elim (fun h=>.inl (by rw [h];rfl)) (fun h=>.inr (by rw [h];exact sku_refl _)),h1,h3⟩
theorem free_of {L:List K.En} {R F:List Rc} (hc:K.chk L=0) (hF:FoldOf R F) {X:List Pv} (hX:BX L F X) {P:Pst} (hP:CanonOf (runsOf X) P):L.filter (pkB P false)=L.filter (freeB R):=by
 apply List.filter_congr;intro e he;have hd:=ce_dot (chk_ce hc e he);have hs:=ce_sku (chk_ce hc e he)
 have hR:V.isR e.rep=true:=by
  have h:=hd;unfold okD dotOf at h;simp only [Bool.and_eq_true] at h;exact h.1
 have hr:0 <= e.rep/\e.rep < 16:=by simpa [V.isR] using hR
 have hrn:e.rep.toNat < 16:=by omega
 have hdot:∀ s:ByteArray,mem (dotsG (dotsS L s) e.rep.toNat) e.num↔(s=nilF∨s=e.sku):=fun s=>by
  rw [dotsG_mem];unfold dotsS;constructor
  ·rintro ⟨d,hd1,-,h1,h2⟩;obtain ⟨x,hx,rfl⟩:=List.mem_map.1 hd1;obtain ⟨hx1,hx2⟩:=List.mem_filter.1 hx
   have ed:dotOf x=dotOf e:=by
    unfold dotOf at h1 h2 ⊢;simp only at h1 h2;congr 1;omega
   have:=dot_one hc hx1 he ed;subst this;rw [Bool.or_eq_true,decide_eq_true_eq,decide_eq_true_eq] at hx2;exact hx2.elim (fun h=>.inl (nilF_of h)) (fun h=>.inr h.symm)
  ·intro h;refine ⟨dotOf e,List.mem_map.2 ⟨e,List.mem_filter.2 ⟨he,?_⟩,rfl⟩,hd,by unfold dotOf;simp only;omega,rfl⟩;rw [Bool.or_eq_true,decide_eq_true_eq,decide_eq_true_eq];exact h.elim (fun h=>.inl (by rw [h];rfl)) (fun h=>.inr h.symm)
 have hin:inB P e=true↔∃ f∈F,(f.s=nilF∨f.s=e.sku)/\FoldM R f.s e.rep.toNat e.num:=by
  rw [inB_iff];unfold dotIn;simp only [hR,true_and];rw [canon_mem hP _ hrn,runsOf_mem,hX.1 _ hrn];constructor
  ·rintro ⟨f,hf,h1,h2⟩;refine ⟨f,hf,(hdot f.s).1 h1,?_⟩;obtain ⟨C,hC,hI⟩:=(hF.2.1 f hf).2.1;exact (hI _ hrn _).1 ((canon_mem hC _ hrn _).1 h2)
  ·rintro ⟨f,hf,h1,h2⟩;refine ⟨f,hf,(hdot f.s).2 h1,?_⟩;obtain ⟨C,hC,hI⟩:=(hF.2.1 f hf).2.1;exact (canon_mem hC _ hrn _).2 ((hI _ hrn _).2 h2)
 have hin2:inB P e=true↔R.any (fun r=>covB r e)=true:=by
  rw [hin,List.any_eq_true];constructor
  ·rintro ⟨f,hf,h1,⟨x,hx,hxs,hm⟩,-⟩;exact ⟨x,hx,(cov_iff hd x).2 ⟨by rw [hxs];exact h1,hm⟩⟩
  ·rintro ⟨r,hr1,hcv⟩;obtain ⟨h1,h2⟩:=(cov_iff hd r).1 hcv
   have step:∀ s,(s=nilF∨s=e.sku) -> FoldM R s e.rep.toNat e.num -> ∃ f∈F,(f.s=nilF∨f.s=e.sku)/\FoldM R f.s e.rep.toNat e.num:=fun s hs1 hM=>by
    obtain ⟨x,hx,hxs,-⟩:=hM.1;apply Classical.byContradiction;intro hn;refine hF.2.2 s ⟨x,hx,hxs⟩ (fun f hf hfs=>hn ⟨f,hf,by rw [hfs];exact hs1,by rw [hfs];exact hM⟩) _ hrn _ hM
   by_cases hz:∃ x∈R,x.s=nilF/\mem (runsAt x.p.P e.rep.toNat) e.num
   ·exact step nilF (.inl rfl) ⟨hz,fun h=>absurd rfl h⟩
   ·rcases h1 with h1 | h1
    ·exact absurd ⟨r,hr1,h1,h2⟩ hz
    ·exact step e.sku (.inr rfl) ⟨⟨r,hr1,h1,h2⟩,fun _=>hz⟩
 unfold pkB freeB
 cases h1:inB P e <;> cases h2:R.any (fun r=>covB r e)
 ·rfl
 ·rw [h1,h2] at hin2;exact absurd (hin2.2 rfl) (by decide)
 ·rw [h1,h2] at hin2;exact absurd (hin2.1 rfl) (by decide)
 ·rfl
theorem free_nil {L:List K.En} {R:List Rc} (hc:K.chk L=0) (hF:FoldOf R []):L.filter (freeB R)=L:=by
 have h:=free_of hc hF (BX.nil L) (P:=pv0.P) ⟨fun _=>[],fun _ _=>⟨trivial,fun _=>Iff.rfl⟩,by decide⟩;rw [<- h];apply List.filter_eq_self.2;intro e _
 have:inB pv0.P e=false:=by
  cases hb:inB pv0.P e
  ·rfl
  ·rw [inB_iff] at hb;unfold dotIn at hb;obtain ⟨h1,h2⟩:=hb;exact absurd h2 (by unfold runsAt pv0;simp [vecPart,cloudPart,V.at',mem,V.clamp])
 unfold pkB;rw [this];rfl
end
section
open Go.RowKit Go.Maps Go.Sort
attribute [local go_sem ↓] ldP_eq stP_eq ldRe_eq stRe_eq
attribute [local go_sem] cells_ReV ReC_size zero_ReC
theorem nodup_len {α : Type} [DecidableEq α]:∀ (l m:List α),l.Nodup -> (∀ x∈l,x∈m) -> l.length <= m.length
 | [],_,_,_=>Nat.zero_le _
 | x :: l,m,hn,hs=>by
  have h1:=List.nodup_cons.1 hn;have hx:=hs x List.mem_cons_self;have h2:=nodup_len l (m.erase x) h1.2 (fun y hy=>(List.mem_erase_of_ne (fun e=>h1.1 (by rw [<- e];exact hy))).2 (hs y (List.mem_cons_of_mem _ hy)));rw [List.length_erase_of_mem hx] at h2;have:=List.length_pos_of_mem hx;simp only [List.length_cons];omega
theorem cb_self:∀ a:List UInt8,Lib.compareBytes a a=0
 | []=>by simp [Lib.compareBytes]
 | a :: x=>by
  have h0:¬ a < a:=UInt8.lt_irrefl a;simpa [Lib.compareBytes,h0] using cb_self x
theorem fold_len {R F:List Rc} (h:FoldOf R F):F.length <= R.length:=by
 have h1:=nodup_len (F.map (fun x=>x.s.data.toList)) (R.map (fun x=>x.s.data.toList)) (by
  refine List.pairwise_map.2 (h.1.imp fun {a b} hab e=>?_)
  have e2:a.s=b.s:=by cases ha:a.s;cases hb:b.s;rw [ha,hb] at e;simpa using e
  rw [e2] at hab
  exact absurd hab (by unfold cmpS;rw [cb_self];decide)) (fun x hx=>by
  obtain ⟨f,hf,rfl⟩:=List.mem_map.1 hx;obtain ⟨r,hr,e⟩:=(h.2.1 f hf).1
  exact List.mem_map.2 ⟨r,hr,by rw [e]⟩)
 simpa using h1
theorem clone_gives {w w':World} {L:List K.En} {n:Nat} {ao:Option Addr} {c:Nat} (hn:L.length=n) (hs:∀ e∈L,e.sku.size <= maxLen) (hb:n <= 3518437208883) (O:K.OwnE w.heap.size w.heap.size w w' ao c L):K.ESrc w' ao n c L/\∀ ad,ao=some ad -> w.heap.size <= ad.block:=by
 have h:=O.src hs (by omega);rw [hn] at h;exact h
theorem apply_any (ao bo:Option Addr) (n cap m cap':Nat) (L:List K.En) (R:List Rc) (w:World) (hS:K.ESrc w ao n cap L) (hR:RcS w bo m cap' R) (hwt:∀ s,wt (ofS R s) <= 8796093022207) (hnm:m * (n+1) <= 8796093022207) :
  Calls Tryz.prog 38 #[.slice ao n cap,.slice bo m cap'] w fun x w'=>ApA w w' x L R m:=by
 have HS:=hide hS;have HR:=hide hR;have HW:=hide hwt;have HNM:=hide hnm;have HL:Hid (L.length=n/\n <= 3518437208883):=⟨hS.1,hS.2.2.2.2⟩;have hnb:=HL.out.2;have HM:Hid (R.length=m):=hR.len;clear hS hR hwt hnm;go_enter Tryz.func38,Tryz.ntmps38;go_wp2_with fail;refine (K.lcheck_any ao n cap L _ HS.out).mono ?_;rintro x w1 ⟨rfl,b1⟩;have HB1:=hide b1;have HS1:=hide (HS.out.below b1);have HR1:=hide (HR.out.below b1);clear b1 HS HR;rcases K.chk_cases L with hc | hc;rotate_left
 ·have HE:Hid (ApA w w1 (.returned (.tuple #[.slice none 0 0,.int .i64 1])) L R m):=.inr ⟨fun h=>(by rw [hc] at h;cases h.1),_,_,_,rfl,K.ESrc.none _,HB1.out,fun ad h=>by cases h⟩;rw [hc];clear hc;go_wp2_with fail;go_ret2;exact HE.out
 ·rw [hc];have HC:=hide hc;clear hc;go_wp2_with fail;refine (fold_any bo m cap' R _ HR1.out HW.out).mono ?_;rintro x w2 (⟨hO,⟨qo,qn,qc⟩,F,rfl,S2,b2,-,hF⟩ | ⟨hO,rfl,b2⟩);rotate_left
  ·have HE:Hid (ApA w w2 (.returned (.tuple #[.slice none 0 0,.int .i64 1])) L R m):=.inr ⟨fun h=>hO h.2,_,_,_,rfl,K.ESrc.none _,HB1.out.trans (b2.mono HB1.out.size),fun ad h=>by cases h⟩;clear hO b2;go_wp2_with fail;go_ret2;exact HE.out
  ·rw [show HsV ⟨qo,qn,qc⟩=Value.slice qo qn qc from rfl];replace S2:RcS w2 qo qn qc F:=S2;have HO:=hide hO;have HB2:=wTr HB1 b2;have HS2:=hide (HS1.out.below b2);have HF:=hide hF;have HFS:=hide S2;have HFl:Hid (F.length=qn):=S2.len;have hqb:=S2.big
   have HFm:Hid (qn <= m):=by show _ <= _;rw [<- HFl.out,<- HM.out];exact fold_len hF
   clear hO b2 HS1 HB1 HR1 hF S2;by_cases hq0:qn=0
   ·have hqi:((qn:Int) == 0)=true:=by simp [hq0]
    have hF0:F=[]:=List.eq_nil_of_length_eq_zero (HFl.out.trans hq0)
    have HFr:Hid (L.filter (freeB R)=L):=by show _=_;exact free_nil HC.out (hF0 ▸ HF.out)
    clear hF0
    cases ao with
    | none =>
     have h00:=HS2.out.2.1 rfl;obtain ⟨rfl,rfl⟩:=h00;go_wp2_with fail;refine (K.clone_nil _).mono ?_;rintro x w3 ⟨rfl,rfl⟩;have HE:Hid (ApA w w3 (.returned (.tuple #[.slice none 0 0,.int .i64 0])) L R m):=.inl ⟨HC.out,HO.out,none,0,0,rfl,by rw [HFr.out];exact HS2.out,HB2.out,fun ad h=>by cases h⟩;go_wp2_with fail;go_ret2;exact HE.out
    | some ad =>
     go_wp2_with fail;refine (K.clone_any ad n cap L _ HS2.out).mono ?_;rintro x w3 ⟨a3,c3,rfl,O3⟩;have h3:=clone_gives HL.out.1 HS2.out.2.2.2.1 HL.out.2 O3;have HE:Hid (ApA w w3 (.returned (.tuple #[.slice a3 n c3,.int .i64 0])) L R m):=.inl ⟨HC.out,HO.out,a3,n,c3,rfl,by rw [HFr.out];exact h3.1,HB2.out.trans (O3.below.mono HB2.out.size),fun ad h=>Nat.le_trans HB2.out.size (h3.2 ad h)⟩;clear O3 h3;go_wp2_with fail;go_ret2;exact HE.out
   ·have hqi:((qn:Int) == 0)=false:=by simp [hq0]
    have HSK:Hid (∀ e∈L,¬ e.sku.size=0):=fun e he=>ce_sku (chk_ce HC.out e he);go_wp2_with fail;refine (dotsBy_any ao n cap L _ HS2.out HSK.out).mono ?_;rintro x w3 ⟨kk,rfl,hM⟩;obtain ⟨K0,f,M3⟩:=hM;have HM3:=hide M3;have HB3:=wTr HB2 M3.below;have HS3:=hide (HS2.out.below M3.below);have HF3:=hide (HFS.out.below M3.below);obtain ⟨b,Hb⟩:∃ b,Hid (w2.heap.size=b):=⟨_,rfl⟩;rw [Hb.out];clear M3 HS2 HFS HB2;go_wp2_with fail;go_loopw [10,35] (fun v i wr=>∃ (k:Nat) (x:Hs),k <= qn/\v = .slice x.o x.n x.c/\i = .int .i64 (k:Int)/\Hid (∃ X:List Pv,OwnP w3.heap.size w3 wr x X/\(∀ p∈X,FarH x p)/\BX L (F.take k) X/\x.n=k)) (fun _ i _=>qn - (intOf i).toNat)
    case atStart=>exact ⟨0,hs0,Nat.zero_le _,rfl,rfl,⟨[],OwnP.nil w3,fun p h=>(by cases h),BX.nil L,rfl⟩⟩
    case round =>
     obtain ⟨k,x,hk,rfl,rfl,HX⟩:=hrel
     rename World=>wr
     by_cases hlt:k < qn
     ·have hlti:(k:Int) < (qn:Int):=by omega
      obtain ⟨X,O,hFar,hBX,hxn⟩:=HX.out;obtain ⟨ad,hao,A0⟩:=(HF3.out.below O.below).at k hlt;have hOk:=(HF3.out.below O.below).okAt k hlt;have HT:=hide (take_snocF F k (by rw [HFl.out];exact hlt));obtain ⟨r,Hr⟩:∃ r,Hid (F.getD k rc0=r):=⟨_,rfl⟩;rw [Hr.out] at A0 hOk HT;have hsk:=hOk.2;have hld:=run_laRe A0;obtain ⟨g7,hg7⟩:∃ g7,wr.heap.size=g7:=⟨_,rfl⟩;obtain ⟨w7,hst,X7,B7,S7⟩:=madeRe wr (mkR r) g7 hg7;have O7:=(O.later B7).later (below_drew1 w7);have M7:=((HM3.out.later O.below).later B7).later (below_drew1 w7)
      have l0:(Instr.lookup 118 (.map (some b)) (.string r.s) false).run Tryz.prog w7.drew = .ok (.slice (f r.s).o (f r.s).n (f r.s).c) w7.drew:=by
       have:=M7.look keyS Tryz.underlying9 Tryz.underlying118 (zeroDs _) r.s hsk;rwa [Hb.out] at this
      have hdl:=M7.len r.s;have hdb:=dotsS_len L r.s
      have HD7:Hid (RSrc w7.drew (f r.s).o (f r.s).n (f r.s).c (dotsS L r.s)):=by
       have h:=M7.rows r.s
       have e:(HsV (f r.s)) = .slice (f r.s).o (dotsS L r.s).length (f r.s).c:=by show Value.slice _ _ _=_;rw [hdl]
       rw [e,hdl] at h;have:=(OwnD.src (B0:=w2.heap.size) ⟨h,M7.below,M7.hb.2.2,by omega⟩ (by have:=HL.out;omega)).1
       show RSrc _ _ _ _ _
       rw [hdl];exact this
      have HSt:Hid (∀ W:World,W.heap[g7]? = w7.heap[g7]? -> W.cell? ⟨g7,0,none⟩=some (.string r.s)/\(ldP (.pointer (some ⟨g7,1,none⟩))).run Tryz.prog W = .ok (.agg #[.slice r.p.vo r.p.vn r.p.vc,.slice r.p.co r.p.cn r.p.cc]) W):=fun W h=>by
       have X:ReBox W g7 (mkR r):=h.trans X7;exact ⟨X.sk,run_ldP X.past⟩
      have Hg7:Hid (g7 < w7.heap.size):=by show _ < _;omega
      have Hlt:=hide hlt;have HO7:=hide O7;have HFa:=hide hFar;have HBX:=hide hBX;have Hxn:Hid (x.n=k/\k <= 2199023255552):=⟨hxn,by omega⟩;have HP7:Hid (PSrc w7.drew r.p):=((hOk.1.below B7).below (below_drew1 w7))
      have HGX:Hid (∀ j,(HsV x).ownBlock=some j -> j < g7):=fun j hj=>by have:=(O.own.lt j hj).2;omega
      subst hao;clear A0 X7 B7 S7 M7 O7 O hFar hBX hlt hk hOk hdl hdb hxn HX;go_upto_region 14 with fail;clear hst hld;refine wp_region_held_drew (S:=fun W=>W.cell? ⟨g7,0,none⟩=some (.string r.s)/\(ldP (.pointer (some ⟨g7,1,none⟩))).run Tryz.prog W = .ok (.agg #[.slice r.p.vo r.p.vn r.p.vc,.slice r.p.co r.p.cn r.p.cc]) W) (by kernel_rfl) (HSt.out _ rfl) (fun hHeld=>?_);refine wU 0 ?_;refine wU 1 ?_;refine wU 2 ?_;refine wU 3 ?_;refine wU 6 ?_;refine wU 7 ?_;refine wpAnyH_ready (rs:=[4]) (by kernel_rfl) (by simp) (.cons rfl (fun K hK=>?_) .nil);go_simp;refine hK.out _ _ (HSt.out _ rfl) (fun hHeld=>?_);clear hK K;refine wpAnyH_ready (rs:=[5]) (by kernel_rfl) (by simp) (.cons rfl (fun K hK=>?_) .nil);go_simp;go_wp2_with fail;refine (pastOfN_any (f r.s).o (f r.s).n (f r.s).c (dotsS L r.s) _ HD7.out).mono ?_;rintro e w8 ⟨pd,rfl,Sd,-,b8,Cd⟩;have HO8:=hide (HO7.out.later b8)
      have HP8:=hide (HP7.out.below b8);have z8:w8.heap[g7]? = w7.heap[g7]?:=b8.block g7 Hg7.out;have HZ8:=hide z8;have HG8:Hid (g7 < w8.heap.size):=Nat.lt_of_lt_of_le Hg7.out b8.size;have HSd:=hide Sd;have HCd:=hide Cd;refine hK.out _ _ (HSt.out _ z8) (fun hHeld=>?_);clear hK K;clear b8 z8 Sd Cd HO7 HP7 l0;refine wpAnyH_ready (rs:=[8]) (by kernel_rfl) (by simp) (.cons rfl (fun K hK=>?_) .nil);go_simp;go_wp2_with fail;refine (pastMeet_any pd r.p _ HSd.out HP8.out).mono ?_;rintro e w9 ⟨pm,rfl,Sm,Nm,b9,Cm⟩;have HO9:=hide (HO8.out.later b9);have z9:w9.heap[g7]? = w7.heap[g7]?:=(b9.block g7 HG8.out).trans HZ8.out;have HZ9:=hide z9;have HG9:Hid (g7 < w9.heap.size):=Nat.lt_of_lt_of_le HG8.out b9.size;have HSm:=hide Sm;have HFm2:Hid (FarH x pm):=fun j hj=>PFar.new Nm (by have:=HGX.out j hj;have:=HG8.out;omega)
      have HBm:Hid (BX L (F.take (k+1)) (X++[pm])):=by show BX _ _ _;rw [HT.out];exact HBX.out.snoc HCd.out Cm
      refine hK.out _ _ (HSt.out _ z9) (fun hHeld=>?_);clear hK K;clear b9 z9 Sm Nm Cm HO8 HP8;obtain ⟨ga,ca,wa,haa,Oa,Fa,ka⟩:=HO9.out.app HFa.out pm HSm.out HFm2.out (by have:=Hxn.out;omega);have HAA:Hid ((Builtin.append_ #[99,99] 99 #[.slice x.o x.n x.c,.slice (some ⟨w9.heap.size,0,none⟩) 1 1]).run Tryz.prog (w9.alloc (.cells #[.slice pm.vo pm.vn pm.vc,.slice pm.co pm.cn pm.cc] 26)) = .ok (.slice (some ⟨ga,0,none⟩) (x.n+1) ca) wa):=haa;have zA:(w9.alloc (.cells #[.slice pm.vo pm.vn pm.vc,.slice pm.co pm.cn pm.cc] 26)).heap[g7]? = w7.heap[g7]?:=(Below.heap_alloc w9 _ g7 HG9.out).trans HZ9.out;have za:wa.heap[g7]? = w7.heap[g7]?:=(ka g7 HG9.out (fun e=>by have:=HGX.out g7 e;omega)).trans HZ9.out;have HOa:Hid (∃ X:List Pv,OwnP w3.heap.size w3 wa ⟨some ⟨ga,0,none⟩,x.n+1,ca⟩ X/\(∀ p∈X,FarH ⟨some ⟨ga,0,none⟩,x.n+1,ca⟩ p)/\BX L (F.take (k+1)) X/\x.n+1=k+1):=⟨_,Oa,Fa,HBm.out,by rw [Hxn.out.1]⟩
      clear haa Oa Fa ka;refine wpAnyH_ready (rs:=[9]) (by kernel_rfl) (by simp) (.cons rfl (fun K hK=>?_) .nil);go_simp;refine hK.out _ _ (HSt.out _ zA) (fun hHeld=>?_);clear hK K;refine wpAnyH_ready (rs:=[10]) (by kernel_rfl) (by simp) (.cons rfl (fun K hK=>?_) .nil);refine step_appM (by rfl) (.tmp 39) (.tmp 48) (by rfl) (by rfl) (by rfl) HAA.out ?_;refine hK.out _ _ (HSt.out _ za) (fun hHeld=>?_);clear hK K;refine wU 11 ?_;refine wpAnyH_done (by kernel_rfl) ?_ _;clear hHeld;clear zA za;go_wp2_with fail;go_roundw
      case rel=>exact ⟨k+1,⟨some ⟨ga,0,none⟩,x.n+1,ca⟩,Hlt.out,rfl,by simp,HOa⟩
      case measure=>simp [intOf];have:=Hlt.out;omega
     ·have hlti:¬ (k:Int) < (qn:Int):=by omega
      obtain ⟨X,O,-,hBX,hxn⟩:=HX.out;have hT:F.take k=F:=List.take_of_length_le (by have:=HFl.out;omega);rw [hT] at hBX;have HBX:=hide hBX;have HP:Hid (PRow wr x.o x.n X):=O.row
      have HWX:Hid (wt X <= 8796093022207):=by
       show _ <= _
       have h1:=hBX.2;rw [HFl.out,HL.out.1] at h1;have h2:=Nat.mul_le_mul_right (n+1) HFm.out;have h3:=HNM.out;omega
      have hxq:x.n <= 8796093022207:=by omega
      have HBr:=wTr HB3 O.below;have HSr:=hide (HS3.out.below O.below);clear O hBX hT hxn HX hk hlt;go_wp2_with fail;refine (pastJoin_any x.o x.n x.c X _ HP.out HWX.out hxq).mono ?_;rintro e w8 ⟨pj,rfl,Sj,-,b8,Cj⟩;have HB8:=wTr HBr b8;have HS8:=hide (HSr.out.below b8);have HSj:=hide Sj;have HCj:=hide Cj;clear b8 Sj Cj HBr HSr;go_wp2_with fail;refine (outside_any ao n cap L pj _ HS8.out HSj.out).mono ?_;rintro e w9 (⟨-,-,a9,n9,c9,rfl,S9,b9,N9⟩ | ⟨hno,-⟩);rotate_left
      ·exact absurd ⟨HC.out,canon_iff.1 HCj.out.canon⟩ hno
      ·have HE:Hid (ApA w w9 (.returned (.tuple #[.slice a9 n9 c9,.int .i64 0])) L R m):=.inl ⟨HC.out,HO.out,a9,n9,c9,rfl,by rw [<- free_of HC.out HF.out HBX.out HCj.out];exact S9,HB8.out.trans (b9.mono HB8.out.size),fun ad h=>Nat.le_trans HB8.out.size (N9 ad h)⟩;clear S9 b9 N9;go_wp2_with fail;go_ret2;exact HE.out
end
section
open Go.RowKit
def FormS (s:Fc):Prop:=(K.okN s.es s.an=true/\InForm s.p.P/\OkR s.rs s.rn)/\(∀ e∈s.es,inB s.p.P e=true)/\(∀ r∈s.rs,¬ wiP r.p.P s.p.P)/\∀ e∈s.es,freeB s.rs e=true
def ChkS (s:Fc) (x:Int):Prop:=(FormS s/\x=0)∨(¬ FormS s/\x=1)
theorem pk_none {L:List K.En} {P:Pst}:(L.filter (pkB P false)).length=0↔∀ e∈L,inB P e=true:=by
 rw [List.length_eq_zero_iff,List.filter_eq_nil_iff];refine forall_congr' fun e=>forall_congr' fun _=>?_;unfold pkB
 cases inB P e <;> simp
theorem fr_all {L:List K.En} {R:List Rc}:(L.filter (freeB R)).length=L.length↔∀ e∈L,freeB R e=true:=by
 rw [List.length_filter_eq_length_iff]
theorem wt_all {L F:List Rc} {P:Pst} (h:WtOf L P F):F.length=L.length↔∀ r∈L,¬ wiP r.p.P P:=by
 have e1:F.length=((plR L).filter (waitB P)).length:=by rw [<- h.2,plR_len]
 have e2:L.length=(plR L).length:=(plR_len L).symm;rw [e1,e2,List.length_filter_eq_length_iff];constructor
 ·intro k r hr hw;have:=k (r.s,r.p.P) (List.mem_map.2 ⟨r,hr,rfl⟩);have h2:waitB P (r.s,r.p.P)=false:=waitB_no (y:=(r.s,r.p.P)) hw;rw [h2] at this
  cases this
 ·intro k y hy;obtain ⟨r,hr,rfl⟩:=List.mem_map.1 hy;have h2:waitB P (r.s,r.p.P)=true:=waitB_yes (y:=(r.s,r.p.P)) (k r hr);exact h2
theorem chk_okS {L:List K.En} {n:Nat} (hl:L.length=n):K.chk L=0↔K.okN L n=true:=by
 unfold K.chk;rw [hl]
 split <;> simp_all
attribute [local go_sem ↓] ldP_eq stP_eq ldSw_eq stSw_eq
attribute [local go_sem] cells_PV PC_size cells_FaV FaC_size
theorem swCheck_any (s:Fc) (w:World) (hF:FcOk w s) (hR:FcR s) (hwt:∀ t,wt (ofS s.rs t) <= 8796093022207) (hnm:s.rn * (s.an+1) <= 8796093022207) (hrn:s.rn <= 2199023255551) :
  Calls Tryz.prog 19 #[FaV (mkF s)] w fun e w'=>GivesK w w' e (ChkS s):=by
 have b1:=below_new w (.cells (FaC (mkF s)) 29);have X1:=SwBox_new w (mkF s);obtain ⟨wk,hwk⟩:∃ w1,w.alloc (.cells (FaC (mkF s)) 29)=w1:=⟨_,rfl⟩;rw [hwk] at b1 X1;obtain ⟨G,hG0⟩:∃ G,w.heap.size=G:=⟨_,rfl⟩;rw [hG0] at X1;have HX:=hide X1;have HBK:=hide b1;have HF:=hide (hF.below b1);have HR:=hide hR;have HWt:=hide hwt;have HNm:Hid (s.rn * (s.an+1) <= 8796093022207/\s.rn <= 2199023255551):=⟨hnm,hrn⟩;have HLn:Hid (s.es.length=s.an/\s.rs.length=s.rn):=⟨hF.es.1,hF.rs.len⟩;clear hF b1 X1 hR hwt hnm hrn;obtain ⟨c0,c3⟩:=HX.out.cs;have lp:=run_ldP HX.out.past;go_enter Tryz.func19,Tryz.ntmps19;go_wp2_with fail;clear hwk hG0 c0 c3 lp;refine (outside_any s.ao s.an s.ac s.es s.p _ HF.out.es HF.out.p).mono ?_;rintro e w3 (⟨hc,hI,a3,n3,d3,rfl,S3,b3,-⟩ | ⟨hno,a3,n3,d3,rfl,S3,b3,-⟩);rotate_left
 ·have HE:Hid (GivesK w w3 (.returned (.int .i64 1)) (ChkS s)):=⟨1,rfl,.inr ⟨fun h=>hno ⟨(chk_okS HLn.out.1).2 h.1.1,h.1.2.1⟩,rfl⟩,HBK.out.trans (b3.mono HBK.out.size)⟩;clear hno S3 b3;go_wp2_with fail;go_ret;exact HE.out
 have H1:Hid (K.okN s.es s.an=true/\InForm s.p.P/\(s.es.filter (pkB s.p.P false)).length=n3):=⟨(chk_okS HLn.out.1).1 hc,hI,S3.1⟩;have HB3:=hide b3;clear hc hI S3 b3;by_cases h3:n3=0;rotate_left
 ·have hp:(0:Int) < (n3:Int):=by omega
  have HE:Hid (GivesK w w3 (.returned (.int .i64 1)) (ChkS s)):=⟨1,rfl,.inr ⟨fun h=>h3 (by rw [<- H1.out.2.2];exact pk_none.2 h.2.1),rfl⟩,HBK.out.trans (HB3.out.mono HBK.out.size)⟩;go_wp2_with fail;go_ret;exact HE.out
 subst h3;have H2:Hid (∀ e∈s.es,inB s.p.P e=true):=pk_none.1 H1.out.2.2;obtain ⟨c0,c3⟩:=(HX.out.below HB3.out).cs;have lp:=run_ldP (HX.out.below HB3.out).past;go_wp2_with fail;clear c0 c3 lp;refine (keepWaits_any s.ro s.rn s.rc s.rs s.p _ ((HF.out.row HR.out).below HB3.out) (HF.out.p.below HB3.out) HNm.out.2).mono ?_;rintro e w4 (⟨hO,-,⟨fo,fn,fc⟩,F,rfl,G4,n4,W4⟩ | ⟨hno,rfl,b4⟩);rotate_left
 ·have HE:Hid (GivesK w w4 (.returned (.int .i64 1)) (ChkS s)):=⟨1,rfl,.inr ⟨fun h=>hno ⟨h.1.2.2,h.1.2.1⟩,rfl⟩,HBK.out.trans ((HB3.out.trans (b4.mono HB3.out.size)).mono HBK.out.size)⟩;clear hno b4;go_wp2_with fail;go_ret;exact HE.out
 have HB4:=wTr HB3 G4.below;have H3:Hid (OkR s.rs s.rn/\WtOf s.rs s.p.P F/\F.length=fn/\fn <= s.rn):=⟨hO,W4,G4.src.len,n4⟩;rw [show HsV ⟨fo,fn,fc⟩=Value.slice fo fn fc from rfl];clear hO G4 n4 W4;obtain ⟨c0,c3⟩:=(HX.out.below HB4.out).cs;by_cases h4:fn < s.rn
 ·have hp:(fn:Int) < (s.rn:Int):=by omega
  have HE:Hid (GivesK w w4 (.returned (.int .i64 1)) (ChkS s)):=⟨1,rfl,.inr ⟨fun h=>by
   have h5:=(wt_all H3.out.2.1).2 h.2.2.1;rw [H3.out.2.2.1,HLn.out.2] at h5
   omega,rfl⟩,HBK.out.trans (HB4.out.mono HBK.out.size)⟩
  go_wp2_with fail;clear c0 c3;go_ret;exact HE.out
 have hp:¬ (fn:Int) < (s.rn:Int):=by omega
 have H4:Hid (∀ r∈s.rs,¬ wiP r.p.P s.p.P):=(wt_all H3.out.2.1).1 (by rw [H3.out.2.2.1,HLn.out.2];have:=H3.out.2.2.2;omega);clear h4;go_wp2_with fail;clear c0 c3 hp;refine (apply_any s.ao s.ro s.an s.ac s.rn s.rc s.es s.rs _ (HF.out.es.below HB4.out) (HF.out.rs.below HB4.out) HWt.out HNm.out.1).mono ?_;rintro e w5 (⟨-,-,a5,n5,d5,rfl,S5,b5,-⟩ | ⟨hno,-⟩);rotate_left
 ·exact absurd ⟨(chk_okS HLn.out.1).2 H1.out.1,H3.out.1⟩ hno
 have HB5:=wTr HB4 b5;have H5:Hid ((s.es.filter (freeB s.rs)).length=n5):=S5.1;clear S5 b5;obtain ⟨c0,c3⟩:=(HX.out.below HB5.out).cs
 have hle:n5 <= s.an:=by
  have h:=List.length_filter_le (freeB s.rs) s.es;have h6:=H5.out;have h7:=HLn.out.1;omega
 by_cases h6:n5 < s.an
 ·have hp:(n5:Int) < (s.an:Int):=by omega
  have HE:Hid (GivesK w w5 (.returned (.int .i64 1)) (ChkS s)):=⟨1,rfl,.inr ⟨fun h=>by
   have h5:=fr_all.2 h.2.2.2;have h8:=H5.out;have h7:=HLn.out.1
   omega,rfl⟩,HBK.out.trans (HB5.out.mono HBK.out.size)⟩
  clear hle;go_wp2_with fail;clear c0 c3;go_ret;exact HE.out
 have hp:¬ (n5:Int) < (s.an:Int):=by omega
 have HE:Hid (GivesK w w5 (.returned (.int .i64 0)) (ChkS s)):=⟨0,rfl,.inl ⟨⟨⟨H1.out.1,H1.out.2.1,H3.out.1⟩,H2.out,H4.out,fr_all.1 (by
  have h8:=H5.out;have h7:=HLn.out.1
  omega)⟩,rfl⟩,HBK.out.trans (HB5.out.mono HBK.out.size)⟩
 clear hle h6;go_wp2_with fail;clear c0 c3;go_ret;exact HE.out
end
end Go.Proofs.YtaphmhbmhcahaaaGreat
