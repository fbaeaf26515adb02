/- SXw ORo EFa LPl EHo LMe LWi LTo -/
import Derived.Test.YtjeilkenjdnafaaGreatTk
import Derived.Test.YtjeilkenjdnafaaGreatDk30
import Derived.Test.YtjeilkenjdnafaaGreatDk20
import Derived.Test.YtjeilkenjdnafaaGreatDk09
import Derived.Test.YtjeilkenjdnafaaGreatDk10
import Derived.Deep.CutRange
import Derived.Test.YtjeilkenjdnafaaGreatDk27
import Derived.Test.YtjeilkenjdnafaaGreatDk19
import Derived.Sort.KeysCollected
import Derived.Maps.Ext
import Derived.Test.YtjeilkenjdnafaaGreatDk18
set_option maxRecDepth 100000
set_option maxHeartbeats 6400000
namespace Go.Proofs.YtjeilkenjdnafaaGreat
section
open Go.RowKit Go.Maps
def WvA (w w':World) (x:Ending) (L:List Rc) (P:Pst):Prop:=∃ (h:Hs) (F:List Rc),x = .returned (.slice h.o h.n h.c)/\RcS w' h.o h.n h.c F/\Below w.heap.size w w'/\WtOf L P F/\h.n <= h.c/\(h.o=none -> h.c=0)
attribute [local go_sem ↓] ldP_eq stP_eq ldRe_eq stRe_eq
attribute [local go_sem] cells_PV PC_size cells_ReV ReC_size zero_ReC
theorem refWaits11_any (ao:Option Addr) (n ca:Nat) (L:List Rc) (p:Pv) (w:World) (hS:RcS w ao n ca L) (hO:OkR L n) (hP:PSrc w p) :
  Calls Tryz.prog 53 #[.slice ao n ca,PV p] w fun x w'=>WvA w w' x L p.P:=by
 have b1:=below_new w (.cells (PC p) 26);have x1:=pbox_new w p;obtain ⟨wk,hwk⟩:∃ w1,w.alloc (.cells (PC p) 26)=w1:=⟨_,rfl⟩;obtain ⟨G,hG⟩:∃ g1,w.heap.size=g1:=⟨_,rfl⟩;rw [hwk] at b1 x1;rw [hG] at x1;have HBK:=hide b1;have HX:=hide x1;have HS:=hide (hS.below b1);have HP:=hide (hP.below b1);have HLn:Hid (L.length=n):=hS.len;have HN:=hide hS.big;have HO:=hide hO;have HOL:=hide (okR_iff.1 (by rw [HLn.out];exact HO.out):(∀ r∈L,RecOk r)/\Srt ck (plR L));clear b1 x1 hS hP hO;go_enter Tryz.func53,Tryz.ntmps53;go_wp2_with fail;clear hwk hG;go_loopw [5,6] (fun v i wr=>∃ (k:Nat) (h:Hs) (D:List Rc),k <= n/\v = .slice h.o h.n h.c/\i = .int .i64 (k:Int)/\Hid (OwnRc wk.heap.size wk wr h D/\WtI L p.P k D/\h.n <= k)) (fun _ i _=>n - (intOf i).toNat)
 case atStart=>exact ⟨0,hs0,[],Nat.zero_le _,rfl,rfl,OwnRc.nil wk,WtI.start L _,Nat.le_refl _⟩
 case round =>
  obtain ⟨k,h,D,hk,rfl,rfl,HI⟩:=hrel
  rename World=>wr
  have HBr:Hid (Below wk.heap.size wk wr):=HI.out.1.below;have hnb:=HN.out;by_cases hlt:k < n
  ·have hlti:(k:Int) < (n:Int):=by omega
   obtain ⟨ad,hao,A0⟩:=(HS.out.below HBr.out).at k hlt;obtain ⟨r,Hr⟩:∃ r,Hid (L.getD k rc0=r):=⟨_,rfl⟩
   obtain ⟨b1,o1,rfl⟩:∃ b1 o1,ad=⟨b1,o1,none⟩:=by
    have h:=HS.out.below HBr.out;rw [hao] at h;exact h.spot (by omega)
   have HRo:Hid (RecOk r):=by
    have h:=HOL.out.1 _ (rcD_mem (L:=L) (j:=k) (by rw [HLn.out];exact hlt));rw [Hr.out] at h;exact h
   subst hao;have Hlt:=hide hlt
   have HQ:Hid (∀ W,Below wk.heap.size wk W -> RcOk W r/\ReAt W ⟨b1,o1+k * 3,none⟩ (mkR r)):=fun W hW=>by
    have h1:=(HS.out.below hW).okAt k Hlt.out;have h2:=(HS.out.below hW).at_ _ rfl k Hlt.out;rw [Hr.out] at h1 h2;rw [Addr.add_lit] at h2;exact ⟨h1,h2⟩
   have HSt:Hid (∀ W,Below wk.heap.size wk W -> (ldP (.pointer (some ⟨b1,o1+k * 3+1,none⟩))).run Tryz.prog W = .ok (PV r.p) W/\(ldP (.pointer (some ⟨G,0,none⟩))).run Tryz.prog W = .ok (PV p) W):=fun W hW=>⟨run_ldP (HQ.out W hW).2.flat.2,run_ldP (HX.out.below hW).at⟩;have HBd:=hide (HBr.out.trans ((below_drew1 wr).mono HBr.out.size));clear A0 hlt hk;go_upto_region 5 with fail;refine wp_region_held_drew (S:=fun W=>(ldP (.pointer (some ⟨b1,o1+k * 3+1,none⟩))).run Tryz.prog W = .ok (PV r.p) W/\(ldP (.pointer (some ⟨G,0,none⟩))).run Tryz.prog W = .ok (PV p) W) (by kernel_rfl) (HSt.out _ HBd.out) (fun hHeld=>?_);refine wU 0 ?_;refine wU 1 ?_;refine wU 2 ?_;refine wU 3 ?_;refine wU 4 ?_;refine wU 5 ?_;refine wpAnyH_ready (rs:=[6]) (by kernel_rfl) (by simp) (.cons rfl (fun K hK=>?_) .nil);go_simp;go_wp2_with fail;refine (refWithin_any r.p p _ (HQ.out _ HBd.out).1.1 (HP.out.below HBd.out)).mono ?_
   rintro x w8 ⟨b,rfl,hb,b8⟩;have Hb:Hid (b=true↔wiP r.p.P p.P):=hb;have HB8:=wTr HBd b8;have b8:=hide b8;refine hK.out _ _ (HSt.out _ HB8.out) (fun hHeld=>?_);clear hK K hb HB8;refine wU 7 ?_;refine wpAnyH_done (by kernel_rfl) ?_ _;clear hHeld;have HO8:=hide (HI.out.1.later ((below_drew1 wr).trans b8.out))
   cases b with
   | true =>
    have HN2:Hid (OwnRc wk.heap.size wk w8 h D/\WtI L p.P (k+1) D/\h.n <= k+1):=⟨HO8.out,HI.out.2.1.skip (by rw [HLn.out];exact Hlt.out) Hr.out (Hb.out.1 rfl),by have:=HI.out.2.2;omega⟩;go_wp2_with fail;go_roundw
    case rel=>exact ⟨k+1,h,D,Hlt.out,rfl,by simp,HN2.out⟩
    case measure=>simp [intOf];have:=Hlt.out;omega
   | false =>
    have Hno:Hid (¬ wiP r.p.P p.P):=fun h=>by have:=Hb.out.2 h;cases this
    have HB8:=wTr HBd b8.out;have la:=run_laRe (HQ.out _ HB8.out).2;obtain ⟨gb,cb2,wb,hab,Ob,hkb,hgb,hsb⟩:=HO8.out.appAt r (HQ.out _ HB8.out).1 (farH_of HO8.out ((HQ.out wk (Below.refl _ _)).1.1)) (by have:=HI.out.2.2;have:=HN.out;have:=Hlt.out;omega);have HAb:Hid ((Builtin.append_ #[27,27] 27 #[.slice h.o h.n h.c,.slice (some ⟨w8.heap.size,0,none⟩) 1 1]).run Tryz.prog (w8.alloc (.cells #[.string r.s,.slice r.p.vo r.p.vn r.p.vc,.slice r.p.co r.p.cn r.p.cc] 83)) = .ok (.slice (some ⟨gb,0,none⟩) (h.n+1) cb2) wb):=hab;have HN2:Hid (OwnRc wk.heap.size wk wb ⟨some ⟨gb,0,none⟩,h.n+1,cb2⟩ (D++[r])/\WtI L p.P (k+1) (D++[r])/\h.n+1 <= k+1):=⟨Ob,HI.out.2.1.add (by rw [HLn.out];exact Hlt.out) Hr.out Hno.out HRo.out rfl,by have:=HI.out.2.2;omega⟩;clear hab Ob hkb hgb hsb;go_wp2_with (at_builtin;refine seq_appM rfl (.tmp 21) (.tmp 26) rfl rfl rfl HAb.out ?_)
    clear la;go_roundw
    case rel=>exact ⟨k+1,⟨some ⟨gb,0,none⟩,h.n+1,cb2⟩,D++[r],Hlt.out,rfl,by simp,HN2.out⟩
    case measure=>simp [intOf];have:=Hlt.out;omega
  ·have hlti:¬ (k:Int) < (n:Int):=by omega
   have HE:Hid (WvA w wr (.returned (.slice h.o h.n h.c)) L p.P):=by
    obtain ⟨q1,q2,q3⟩:=HI.out;rw [show k=L.length by rw [HLn.out];omega] at q2;obtain ⟨r1,r2,r3⟩:=ownRc_row q1 (by omega);have hb:=HBK.out;exact ⟨h,D,rfl,r1.src,hb.trans (r3.mono hb.size),q2.done,r1.room,r1.nil⟩
   clear HI;go_wp2_with fail;go_ret;exact HE.out
end
section
open Go.RowKit
attribute [local go_sem ↓] ldP_eq stP_eq
attribute [local go_sem] cells_PV PC_size
variable {w w' w2 W W' : World} {g : Nat}

theorem rnat_fields {p:Addr} {r:Rn} (A:RnAt W p r):W.cell? ⟨p.block,p.off,none⟩=some (.int .i64 r.lo)/\W.cell? ⟨p.block,p.off+1,none⟩=some (.int .i64 r.hi):=by
 have hs:=World.cell?_spot A.c0;have c1:=A.c1;have c0:=A.c0;obtain ⟨b,o,k⟩:=p;obtain rfl:k=none:=hs;rw [Addr.add_lit] at c1;exact ⟨c0,c1⟩
def spOf (d:Rn):Sn:=⟨d.lo,d.hi,d.hi⟩
theorem runs_dots (D:List Rn) (r:Nat) (hr:r < 16) (n:Int):mem (runsAt ⟨[],D.map spOf⟩ r) n↔mem (dotsG D r) n:=by
 rw [mem_runs _ r hr,dotsG_mem];constructor
 ·rintro ⟨h1,h2,h3 | ⟨c,hc,h4,h5,h6⟩⟩
  ·simp at h3;omega
  ·obtain ⟨d,hd,rfl⟩:=List.mem_map.1 hc;unfold spOf at h4 h5 h6;simp only at h4 h5 h6;refine ⟨d,hd,?_,h4,by omega⟩;unfold okD V.isR;simp only [Bool.and_eq_true,decide_eq_true_eq];omega
 ·rintro ⟨d,hd,h1,h2,rfl⟩;unfold okD at h1;simp only [Bool.and_eq_true,decide_eq_true_eq] at h1;exact ⟨h1.2.1,h1.2.2,.inr ⟨spOf d,List.mem_map.2 ⟨d,hd,rfl⟩,h2,Int.le_refl _,Int.le_refl _⟩⟩
structure RO (w2 W:World) (g3:Nat) (ao:Option Addr) (k cap:Nat) (acc:List Sn):Prop where
 own:OwnS g3 (g3+1) w2 W ao cap acc
 box:W.heap[g3]? = some (.cells #[.slice none 0 0,.slice ao k cap] 26 (0,0))
 len:acc.length=k
theorem RO.blk {w2 W:World} {g3:Nat} {ao:Option Addr} {k cap:Nat} {acc:List Sn} (h:RO w2 W g3 ao k cap acc):(Value.slice ao acc.length cap).ownBlock≠some g3:=fun e=>by
 have:=(h.own.own.lt g3 e).1;omega
theorem box2 {b:Nat} {x y:Value} (h:W.heap[b]? = some (.cells #[x,y] 26 (0,0))):W.cell? ⟨b,0,none⟩=some x/\W.cell? ⟨b,1,none⟩=some y/\∀ j,W.frozen? ⟨b,j,none⟩=false:=
 ⟨by simp [World.cell?,h],by simp [World.cell?,h],fun j=>by simp [World.frozen?,h]⟩
theorem RO.push {w2 W W2:World} {g3:Nat} {ao:Option Addr} {k cap:Nat} {acc:List Sn} {e:Sn} {g6 c6:Nat} (h:RO w2 W g3 ao k cap acc) (O:OwnS g3 (g3+1) w2 W2 (some ⟨g6,0,none⟩) c6 (acc++[e])) (hk:W2.heap[g3]? = W.heap[g3]?):RO w2 (W2.setCell ⟨g3,1,none⟩ (.slice (some ⟨g6,0,none⟩) (k+1) c6)) g3 (some ⟨g6,0,none⟩) (k+1) c6 (acc++[e]):=by
 have hb:W2.heap[g3]? = some (.cells #[.slice none 0 0,.slice ao k cap] 26 (0,0)):=hk.trans h.box;refine ⟨⟨⟨O.own.1,?_⟩,?_,by simpa [World.setCell] using O.hB,O.hB0⟩,?_,by rw [List.length_append,h.len];rfl⟩
 ·rcases O.own.2 with ⟨h0,_⟩ | ⟨q,cap2,cur,hv,hbg,hgg,r⟩
  ·cases h0
  ·refine Or.inr ⟨q,cap2,cur,hv,hbg,?_,r⟩;rw [<- hgg];simp [World.setCell,Array.getElem?_modify,show ¬ g3=q by omega]
 ·exact V.below_setCell O.below (Nat.le_refl _)
 ·simp [World.setCell,Array.getElem?_modify,hb]
theorem refOf_any (ao:Option Addr) (n c:Nat) (D:List Rn) (w:World) (hS:RSrc w ao n c D) (hnb:n <= 5864062014804) :
  Calls Tryz.prog 56 #[.slice ao n c] w fun e w'=>GivesP w w' e (CanonOf (dotsG D)):=by
 have b1:=below_new w (.cells #[.slice none 0 0,.slice none 0 0] 26);have x1:PBox (w.alloc (.cells #[.slice none 0 0,.slice none 0 0] 26)) w.heap.size pv0:=pbox_new w pv0;have s1:=World.size_alloc w (.cells #[.slice none 0 0,.slice none 0 0] 26);obtain ⟨w1,hw1⟩:∃ w1,w.alloc (.cells #[.slice none 0 0,.slice none 0 0] 26)=w1:=⟨_,rfl⟩;rw [hw1] at b1 x1 s1;have b2:=below_new w1 (.cells #[.slice none 0 0,.slice none 0 0] 26);have x2:=heap_alloc_new w1 (.cells #[.slice none 0 0,.slice none 0 0] 26);have s2:=World.size_alloc w1 (.cells #[.slice none 0 0,.slice none 0 0] 26);obtain ⟨w2,hw2⟩:∃ w2,w1.alloc (.cells #[.slice none 0 0,.slice none 0 0] 26)=w2:=⟨_,rfl⟩;obtain ⟨g3,hg3⟩:∃ g3,w1.heap.size=g3:=⟨_,rfl⟩;rw [hw2] at b2 x2 s2;rw [hg3] at x2 s2;have HX:Hid (PBox w1 w.heap.size pv0/\Below w.heap.size w w1/\RSrc w1 ao n c D/\w1.heap.size=g3/\w.heap.size < g3):=⟨x1,b1,hS.below b1,hg3,by omega⟩
 have HR0:Hid (RO w1 w2 g3 none 0 0 []):=⟨⟨World.ownsRow_nil _ _ _ _,hg3 ▸ b2,by omega,by omega⟩,x2,rfl⟩;have HD:Hid (D.length=n):=hS.len;clear b1 b2 x1 x2 hS s1 s2;go_enter Tryz.func56,Tryz.ntmps56;go_wp2_with fail;clear hw1 hw2 hg3;go_loopw [4] (fun i wr=>∃ (k:Nat) (ap:Option Addr) (cp:Nat),k <= n/\i = .int .i64 (k:Int)/\Hid (RO w1 wr g3 ap k cp ((D.take k).map spOf))) (fun i _=>n - (intOf i).toNat)
 case atStart=>exact ⟨0,none,0,Nat.zero_le _,rfl,HR0⟩
 case round =>
  obtain ⟨k,ap,cp,hk,rfl,HI⟩:=hrel
  rename World=>wr
  clear HR0;by_cases hlt:k < n
  ·have hlti:(k:Int) < (n:Int):=by omega
   obtain ⟨ad,hao,A0⟩:∃ ad,ao=some ad/\RnAt w1 (ad.add (k * 2)) (D.getD k rn0):=by
    cases ao with
    | none=>have:=(HX.out.2.2.1.nil rfl).1;omega
    | some ad=>exact ⟨ad,rfl,HX.out.2.2.1.cell ad rfl k hlt⟩
   subst hao;obtain ⟨d,hd⟩:∃ d,D.getD k rn0=d:=⟨_,rfl⟩;rw [hd] at A0;have hlb:(ad.add (k * 2)).block < w1.heap.size:=World.block_lt_of_cell? _ _ A0.c0;obtain ⟨q0,q1⟩:=rnat_fields A0
   have HT:Hid ((D.take (k+1)).map spOf=(D.take k).map spOf++[spOf d]):=by
    show _=_
    rw [List.take_add_one,<- hd,List.getD_eq_getElem?_getD,List.getElem?_eq_getElem (by have:=HD.out;omega),List.map_append];rfl
   obtain ⟨acc,hacc⟩:∃ acc,(D.take k).map spOf=acc:=⟨_,rfl⟩;rw [hacc] at HI HT;obtain ⟨lo,hi⟩:=d;dsimp only at q0 q1
   have HSW:Hid (∀ W:World,(∀ j,j < w1.heap.size -> W.heap[j]? = w1.heap[j]?) -> W.cell? (ad.add (k * 2))=some (.int .i64 lo)/\W.cell? ⟨(ad.add (k * 2)).block,(ad.add (k * 2)).off,none⟩=some (.int .i64 lo)/\W.cell? ⟨(ad.add (k * 2)).block,(ad.add (k * 2)).off+1,none⟩=some (.int .i64 hi)):=fun W e =>
    ⟨(World.cell?_of_block (e _ hlb)).trans A0.c0,(by rw [<- q0];simp only [World.cell?,e _ hlb]),(by rw [<- q1];simp only [World.cell?,e _ hlb])⟩
   have Hw1:Hid (w1.heap.size=g3):=HX.out.2.2.2.1;have HSr:Hid (∀ j,j < w1.heap.size -> wr.heap[j]? = w1.heap[j]?):=fun j hj=>HI.out.own.below.block j (by have:=Hw1.out;omega)
   have Hrg:Hid (g3 < wr.heap.size):=by show _ < _;have:=HI.out.own.hB;omega
   have y1:wr.drew.cell? ⟨g3,1,none⟩=some (.slice ap k cp):=(box2 HI.out.box).2.1;have y2:(wr.drew.alloc (.cells #[.int .i64 lo,.int .i64 hi,.int .i64 hi] 65)).cell? ⟨g3,1,none⟩=some (.slice ap k cp):=((below_new wr.drew _).cell (p:=⟨g3,1,none⟩) Hrg.out).trans y1;have y3:(wr.alloc (.cells #[.int .i64 lo,.int .i64 hi,.int .i64 hi] 65)).cell? ⟨g3,1,none⟩=some (.slice ap k cp):=y2
   have HLN:Hid (acc.length < 5864062014805):=by show _ < _;rw [HI.out.len];omega
   have Hlt:=hide hlt;have HK1:Hid (∀ j,j < w1.heap.size -> (wr.drew.alloc (.cells #[.int .i64 lo,.int .i64 hi,.int .i64 hi] 65)).heap[j]? = w1.heap[j]?):=fun j hj=>(Below.heap_alloc wr.drew _ j (show j < wr.heap.size by have:=Hw1.out;have:=Hrg.out;omega)).trans (HSr.out j hj);clear A0 q0 q1 hlb hd hacc hlt hk;go_upto_region 5 with fail;refine wp_region_held_drew (S:=fun W=>W.cell? (ad.add (k * 2))=some (.int .i64 lo)/\W.cell? ⟨(ad.add (k * 2)).block,(ad.add (k * 2)).off,none⟩=some (.int .i64 lo)/\W.cell? ⟨(ad.add (k * 2)).block,(ad.add (k * 2)).off+1,none⟩=some (.int .i64 hi)) (by kernel_rfl) (HSW.out _ HSr.out) (fun hHeld=>?_);refine wU 0 ?_;refine wU 2 ?_;refine wU 3 ?_;refine wU 4 ?_;refine wU 5 ?_;refine wU 6 ?_;refine wU 7 ?_;refine wU 8 ?_;refine wU 9 ?_;refine wU 10 ?_;refine wU 11 ?_;refine wU 12 ?_;refine wU 13 ?_;refine wU 14 ?_
   refine wU 15 ?_;refine wU 16 ?_;refine wU 17 ?_;refine wpAnyH_ready (rs:=[1,18]) (by kernel_rfl) (by simp) ?_;refine AllReadyH.cons rfl (fun K hK=>?_) ?_
   ·go_simp;refine hK.out _ _ (HSW.out _ HSr.out) (fun hHeld=>?_);clear hK K;refine wpAnyH_ready (rs:=[18]) (by kernel_rfl) (by simp) (.cons rfl (fun K hK=>?_) .nil);go_simp;refine hK.out _ _ (HSW.out _ HK1.out) (fun hHeld=>?_);clear hK K;refine wpAnyH_ready (rs:=[19]) (by kernel_rfl) (by simp) (.cons rfl (fun K hK=>?_) .nil);refine HI.out.own.step (spOf ⟨lo,hi⟩) _ (by rfl) HLN.out (by rfl) (.tmp 12) (.tmp 29) (by rfl) k HI.out.len (by rfl) _ (by rfl) (by rfl) ?_;intro g6 c6 w9 O6 h6;have e9:w9.heap[g3]? = wr.heap[g3]?:=h6 g3 Hrg.out HI.out.blk;have f9:=(box2 (e9.trans HI.out.box)).2.2 1;have d9:=(box2 (e9.trans HI.out.box)).2.1;have HP:=hide (HI.out.push O6 e9);have HK2:Hid (∀ j,j < w1.heap.size -> w9.heap[j]? = w1.heap[j]?):=fun j hj=>O6.below.block j (by have:=Hw1.out;omega);have HK3:Hid (∀ j,j < w1.heap.size -> (w9.setCell ⟨g3,1,none⟩ (.slice (some ⟨g6,0,none⟩) (k+1) c6)).heap[j]? = w1.heap[j]?):=fun j hj=>HP.out.own.below.block j (by have:=Hw1.out;omega)
    refine hK.out _ _ (HSW.out _ HK2.out) (fun hHeld=>?_);clear hK K;refine wU 20 ?_;refine wpAnyH_ready (rs:=[21]) (by kernel_rfl) (by simp) (.cons rfl (fun K hK=>?_) .nil);go_simp;refine hK.out _ _ (HSW.out _ HK3.out) (fun hHeld=>?_);clear hK K;refine wpAnyH_done (by kernel_rfl) ?_ _;clear hHeld;clear O6 h6 e9 f9 d9;go_wp2_with fail;go_roundw
    case rel=>exact ⟨k+1,some ⟨g6,0,none⟩,c6,Hlt.out,by simp,by rw [HT.out];exact HP⟩
    case measure=>simp [intOf];have:=Hlt.out;omega
   ·refine AllReadyH.cons rfl (fun K hK=>?_) ?_;rotate_left
    ·exact AllReadyH.nil
    go_simp;refine hK.out _ _ (HSW.out _ HK1.out) (fun hHeld=>?_);clear hK K;refine wpAnyH_ready (rs:=[1]) (by kernel_rfl) (by simp) (.cons rfl (fun K hK=>?_) .nil);go_simp;refine hK.out _ _ (HSW.out _ HK1.out) (fun hHeld=>?_);clear hK K;refine wpAnyH_ready (rs:=[19]) (by kernel_rfl) (by simp) (.cons rfl (fun K hK=>?_) .nil);refine HI.out.own.step (spOf ⟨lo,hi⟩) _ (by rfl) HLN.out (by rfl) (.tmp 12) (.tmp 29) (by rfl) k HI.out.len (by rfl) _ (by rfl) (by rfl) ?_;intro g6 c6 w9 O6 h6;have e9:w9.heap[g3]? = wr.heap[g3]?:=h6 g3 Hrg.out HI.out.blk;have f9:=(box2 (e9.trans HI.out.box)).2.2 1;have d9:=(box2 (e9.trans HI.out.box)).2.1;have HP:=hide (HI.out.push O6 e9);have HK2:Hid (∀ j,j < w1.heap.size -> w9.heap[j]? = w1.heap[j]?):=fun j hj=>O6.below.block j (by have:=Hw1.out;omega);have HK3:Hid (∀ j,j < w1.heap.size -> (w9.setCell ⟨g3,1,none⟩ (.slice (some ⟨g6,0,none⟩) (k+1) c6)).heap[j]? = w1.heap[j]?):=fun j hj=>HP.out.own.below.block j (by have:=Hw1.out;omega)
    refine hK.out _ _ (HSW.out _ HK2.out) (fun hHeld=>?_);clear hK K;refine wU 20 ?_;refine wpAnyH_ready (rs:=[21]) (by kernel_rfl) (by simp) (.cons rfl (fun K hK=>?_) .nil);go_simp;refine hK.out _ _ (HSW.out _ HK3.out) (fun hHeld=>?_);clear hK K;refine wpAnyH_done (by kernel_rfl) ?_ _;clear hHeld;clear O6 h6 e9 f9 d9;go_wp2_with fail;go_roundw
    case rel=>exact ⟨k+1,some ⟨g6,0,none⟩,c6,Hlt.out,by simp,by rw [HT.out];exact HP⟩
    case measure=>simp [intOf];have:=Hlt.out;omega
  ·have hlti:¬ (k:Int) < (n:Int):=by omega
   obtain rfl:k=n:=by omega
   obtain ⟨pq,hpq⟩:∃ pq:Pv,(⟨none,0,0,ap,k,cp,⟨[],D.map spOf⟩⟩:Pv)=pq:=⟨_,rfl⟩
   have hacc:(D.take k).map spOf=D.map spOf:=by rw [List.take_of_length_le (by have:=HD.out;omega)]
   rw [hacc] at HI;have hl:=HI.out.len
   have HPS:Hid (PSrc wr pq):=by
    rw [<- hpq];have h1:=(HI.out.own.src (by rw [hl];omega)).1;rw [hl] at h1;exact ⟨⟨rfl,fun _=>⟨rfl,rfl⟩,fun ad h=>by cases h⟩,h1,by simp⟩
   have l9:(ldP (.pointer (some ⟨g3,0,none⟩))).run Tryz.prog wr = .ok (PV pq) wr:=by
    rw [<- hpq];exact run_ldP (PBox.at (p:=⟨none,0,0,ap,k,cp,⟨[],D.map spOf⟩⟩) HI.out.box)
   have HP:Hid (pq.P=⟨[],D.map spOf⟩):=by show _=_;rw [<- hpq]
   have hb3:=HI.out.own.below;have hX:=HX.out;have HB:Hid (PBox wr w.heap.size pv0/\Below w.heap.size w wr/\w.heap.size+1 <= wr.heap.size):=⟨(hb3.block _ hX.2.2.2.2).trans hX.1,hX.2.1.trans (hb3.mono (by omega)),by have:=HI.out.own.hB;omega⟩;clear hpq hacc hl hb3 hX hlt;go_wp2_with fail;refine (refNorm_any pq _ HPS.out).mono ?_;rintro e w8 ⟨p,rfl,S2,n2,b2,c2'⟩;obtain ⟨s1,e1,e2,e3,e4⟩:=past_end (w:=w) (HB.out.1.below b2) S2 (n2.mono (by have:=HB.out.2.2;omega)) (HB.out.2.1.trans (b2.mono HB.out.2.1.size)) (Nat.le_refl _);have HE1:=hide e1;have HE2:Hid (GivesP w (w8.setRow w.heap.size (PC p)) (.returned (PV p)) (CanonOf (dotsG D))):=⟨p,rfl,e2,e3,e4,canonOf_mem (HP.out ▸ c2') (fun r hr n=>runs_dots D r hr n)⟩;clear S2 n2 b2 c2' e1 e2 e3 e4 l9;go_wp2_with fail;exact bodyPost_ret (v:=PV p) (resP Tryz.results56 rfl HE1.out) rfl HE2.out
end
section
open Go.RowKit
attribute [local go_sem ↓] ldP_eq stP_eq ldRe_eq stRe_eq ldD_eq stD_eq K.ld28_eq K.st28_eq K.run_eq28
attribute [local go_sem] cells_PV PC_size cells_ReV ReC_size K.cells_EV K.EC_size zero_ReC K.zero_EC
theorem covers08_any (r:Rc) (e:K.En) (w:World) (hR:RcOk w r):Calls Tryz.prog 54 #[ReV (mkR r),K.EV e] w fun x w'=>x = .returned (.bool (covB r e))/\Below w.heap.size w w':=by
 have b1:=below_new w (.cells (ReC (mkR r)) 83);have b2:=below_new (w.alloc (.cells (ReC (mkR r)) 83)) (.cells (K.EC e) 57);have X2:=K.box_new (w.alloc (.cells (ReC (mkR r)) 83)) 57 e;rw [World.size_alloc] at X2;have HXA:=hide ((ReBox_new w (mkR r)).below b2);have HXB:=hide X2;have HBK:=hide (b1.trans (b2.mono b1.size));have HS:=hide (hR.1.below HBK.out);clear b1 b2 X2 hR;obtain ⟨wk,hwk⟩:∃ wk,(w.alloc (.cells (ReC (mkR r)) 83)).alloc (.cells (K.EC e) 57)=wk:=⟨_,rfl⟩;obtain ⟨G,hG⟩:∃ G,w.heap.size=G:=⟨_,rfl⟩;rw [hwk] at HXA HXB HBK HS;rw [hG] at HXA HXB;have c0:=HXA.out.sk;have c2:wk.cell? ⟨G+1,2,none⟩=some (.string e.sku):=HXB.out.at.c2;have l1:=run_ldP HXA.out.past;have l2:=run_ldD (enc_dot HXB.out);have key:Hid (Calls Tryz.prog 27 #[PV r.p,RV ⟨e.rep,e.num⟩] wk fun x w'=>GivB wk w' x (dotIn r.p.P ⟨e.rep,e.num⟩)):=refHas_any r.p ⟨e.rep,e.num⟩ wk HS.out
 by_cases h0:r.s.size=0
 ·have e0:=K.empty_yes r.s h0
  have HC:Hid ((decide (r.s.size=0) || (r.s.toList == e.sku.toList))=true):=by show _=_;rw [decide_eq_true h0,Bool.true_or]
  clear h0;go_enter Tryz.func54,Tryz.ntmps54;go_wp2_with fail;clear hwk;refine key.out.mono ?_;rintro x w3 ⟨b,rfl,hb,b3⟩;have HE:Hid (b=covB r e/\Below w.heap.size w w3):=⟨(covB_sku HC.out hb).symm,HBK.out.trans (b3.mono HBK.out.size)⟩;clear b3 hb l1 l2 c0 c2;go_wp2_with fail;go_ret;exact ⟨by rw [HE.out.1];rfl,HE.out.2⟩
 ·have e0:=K.empty_no r.s h0
  cases hs:(r.s.toList == e.sku.toList) with
  | true =>
   have HC:Hid ((decide (r.s.size=0) || (r.s.toList == e.sku.toList))=true):=by show _=_;rw [hs,Bool.or_true]
   clear h0;go_enter Tryz.func54,Tryz.ntmps54;go_wp2_with fail;clear hwk;refine key.out.mono ?_;rintro x w3 ⟨b,rfl,hb,b3⟩;have HE:Hid (b=covB r e/\Below w.heap.size w w3):=⟨(covB_sku HC.out hb).symm,HBK.out.trans (b3.mono HBK.out.size)⟩;clear b3 hb l1 l2 c0 c2;go_wp2_with fail;go_ret;exact ⟨by rw [HE.out.1];rfl,HE.out.2⟩
  | false =>
   have HE:Hid (false=covB r e):=(covB_not h0 hs).symm;clear h0 key;go_enter Tryz.func54,Tryz.ntmps54;go_wp2_with fail;go_ret;exact ⟨by rw [<- HE.out];rfl,HBK.out⟩
end
end Go.Proofs.YtjeilkenjdnafaaGreat
namespace Go.Proofs.YtjeilkenjdnafaaGreat.K
open Go.RowKit Go.Maps Go.Sort

structure Ln where
 sku:ByteArray
 qty:Int
 parts:Int
def ln0:Ln:=⟨⟨#[]⟩,0,0⟩
def addL (l:Ln) (e:En):Ln:=⟨e.sku,l.qty+e.qty,l.parts+1⟩
def ofS (L:List En) (s:ByteArray):List En:=L.filter (fun e=>eqS e.sku s)
def lineOf (L:List En) (s:ByteArray):Ln:=(ofS L s).foldl addL ln0
def AllOk (L:List En):Prop:=∀ e∈L,1 <= e.qty/\e.qty <= 1000000
def LinesOf (L:List En) (R:List Ln) (er:Int):Prop:=
 (chk L≠0/\R=[]/\er=1)∨(chk L=0/\er=0/\R.Pairwise (fun a b=>a.sku.data.toList < b.sku.data.toList)/\∀ l,l∈R↔∃ e∈L,l=lineOf L e.sku)
def Mp (D:DataW Ln) (L:List En):Prop:=(∀ s:ByteArray,has D (.string s.data.toList)=true↔∃ e∈L,e.sku=s)/\∀ s:ByteArray,D.atKey (.string s.data.toList) (.held ln0) = .held (lineOf L s)
end Go.Proofs.YtjeilkenjdnafaaGreat.K
namespace Go.Proofs.YtjeilkenjdnafaaGreat
open Go.RowKit
attribute [local go_sem ↓] ldP_eq stP_eq ldD_eq stD_eq K.ld28_eq K.st28_eq K.run_eq28
attribute [local go_sem] cells_PV PC_size K.cells_EV K.EC_size K.zero_EC
def noS (L:List K.En) (s:ByteArray):List K.En:=L.filter (fun e => !K.eqS e.sku s)
theorem en_f2 {w:World} {p:Addr} {e:K.En} (A:K.EnAt w p e):w.cell? ⟨p.block,p.off+2,none⟩=some (.string e.sku):=by
 have h:=A.c2;have hs:=World.cell?_spot A.c0;obtain ⟨b,o,sp⟩:=p;simp at hs;subst hs;rwa [Addr.add_lit] at h
def kpB (s:ByteArray) (P:Pst) (e:K.En):Bool:=(decide (s.size=0) || (e.sku.toList == s.toList)) && inB P e
def ktL (L:List K.En) (s:ByteArray) (P:Pst):List K.En:=L.filter (fun e => !kpB s P e)
end Go.Proofs.YtjeilkenjdnafaaGreat
namespace Go.Proofs.YtjeilkenjdnafaaGreat.K
section
open Go.RowKit

def LC (e:Ln):Array Value:=#[.string e.sku,.int .i64 e.qty,.int .i64 e.parts]
abbrev LV (e:Ln):Value:=.agg (LC e)
theorem LC_size (e:Ln):(LC e).size=3:=rfl
theorem cells_LV (e:Ln):(LV e).cells=LC e:=by simp [Value.cells]
theorem zero_LC:(#[.string ⟨#[]⟩,.int .i64 0,.int .i64 0]:Array Value)=LC ln0:=rfl
structure LnAt (w:World) (p:Addr) (e:Ln):Prop where
 c0:w.cell? p=some (.string e.sku)
 c1:w.cell? (p.add 1)=some (.int .i64 e.qty)
 c2:w.cell? (p.add 2)=some (.int .i64 e.parts)
theorem LnAt.on {w w':World} {p:Addr} {e:Ln} (S:LnAt w p e) (hb:Below w.heap.size w w'):LnAt w' p e:=by
 have h0:=World.block_lt_of_cell? _ _ S.c0;exact ⟨by rw [hb.cell h0];exact S.c0,by rw [hb.cell (by rw [block_add];exact h0)];exact S.c1,by rw [hb.cell (by rw [block_add];exact h0)];exact S.c2⟩
def LBox (w:World) (g:Nat) (T:TypeId) (e:Ln):Prop:=w.heap[g]? = some (.cells (LC e) T (0,0))
theorem LBox.lt {w:World} {g:Nat} {T:TypeId} {e:Ln} (h:LBox w g T e):g < w.heap.size:=(Array.getElem?_eq_some_iff.1 h).1
theorem LBox.at {w:World} {g:Nat} {T:TypeId} {e:Ln} (h:LBox w g T e):LnAt w ⟨g,0,none⟩ e:=by
 unfold LBox at h;refine ⟨?_,?_,?_⟩ <;> simp [Addr.add,World.cell?,h,LC]
theorem LBox.below {w w':World} {g:Nat} {T:TypeId} {e:Ln} (h:LBox w g T e) (hb:Below w.heap.size w w'):LBox w' g T e:=(hb.block g h.lt).trans h
def LSrc (w:World) (ao:Option Addr) (m c:Nat) (L:List Ln):Prop:=
 L.length=m/\(ao=none -> m=0/\c=0)/\(∀ ad,ao=some ad -> ∀ t,t < m -> LnAt w (ad.add (t * 3)) (L.getD t ln0))/\(∀ e∈L,e.sku.size <= maxLen)/\m <= 3518437208883
theorem LSrc.below {w w':World} {ao:Option Addr} {m c:Nat} {L:List Ln} (h:LSrc w ao m c L) (hb:Below w.heap.size w w'):LSrc w' ao m c L:=
 ⟨h.1,h.2.1,fun ad ha t ht=>(h.2.2.1 ad ha t ht).on hb,h.2.2.2⟩
theorem LSrc.at {w:World} {ao:Option Addr} {m c:Nat} {L:List Ln} (h:LSrc w ao m c L) (k:Nat) (hk:k < m):∃ ad,ao=some ad/\LnAt w (ad.add (k * 3)) (L.getD k ln0):=by
 cases ao with
 | none=>have:=h.2.1 rfl;omega
 | some ad=>exact ⟨ad,rfl,h.2.2.1 ad rfl k hk⟩
theorem LSrc.none (w:World):LSrc w none 0 0 []:=⟨rfl,fun _=>⟨rfl,rfl⟩,(fun ad h=>by cases h),(fun e he=>by cases he),by omega⟩
def lcs (L:List Ln):List Value:=(L.map (fun e=>(LC e).toList)).flatten
theorem LSrc.kept {w w2:World} {ao:Option Addr} {m c:Nat} {L:List Ln} (h:LSrc w ao m c L) (hk:∀ ad,ao=some ad -> w2.heap[ad.block]? = w.heap[ad.block]?):LSrc w2 ao m c L:=by
 refine ⟨h.1,h.2.1,fun ad ha t ht=>?_,h.2.2.2⟩;have A:=h.2.2.1 ad ha t ht;have hb:∀ j,w2.cell? ((ad.add (t * 3)).add j)=w.cell? ((ad.add (t * 3)).add j):=fun j=>cell_kept (by rw [block_add,block_add];exact hk ad ha);have hb0:w2.cell? (ad.add (t * 3))=w.cell? (ad.add (t * 3)):=cell_kept (by rw [block_add];exact hk ad ha);exact ⟨hb0.trans A.c0,(hb 1).trans A.c1,(hb 2).trans A.c2⟩
end
section
open Go.RowKit Go.Maps
attribute [local go_sem] zero_LC cells_LV LC_size
theorem set_LC (t:ByteArray) (a b:Int):((((LC ln0).setIfInBounds 0 (.string t)).setIfInBounds 1 (.int .i64 a)).setIfInBounds 2 (.int .i64 b))=LC ⟨t,a,b⟩:=rfl
def RL (v:Value):Option (DataW Ln × List MemPlace):=
 match v with
 | .agg cs=>(match cs.toList with
  | [.string s,.int .i64 q,.int .i64 p]=>some (.held ⟨s,q,p⟩,[])
  | _=>none)
 | _=>none
attribute [local go_sem] set_LC
end
section
open Go.RowKit
attribute [local go_sem ↓] ld28_eq st28_eq
attribute [local go_sem] zero_EC cells_EV EC_size zero_LC cells_LV LC_size
def ttl:List En -> Int
 | []=>0
 | e :: r=>e.qty+ttl r
def totV (L:List En):Int:=if chk L=0 then ttl L else 0
def lnV (L:List En) (s:ByteArray):Ln:=if ofE L s=0 then lineOf L s else ln0
end
end Go.Proofs.YtjeilkenjdnafaaGreat.K
