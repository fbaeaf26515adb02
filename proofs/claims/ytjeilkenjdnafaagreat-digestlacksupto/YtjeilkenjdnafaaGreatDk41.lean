/- TPs SXe SXs ZDg ZCk YDa YDb -/
import Derived.Test.YtjeilkenjdnafaaGreatTk
import Derived.Test.YtjeilkenjdnafaaGreatDk40
import Derived.Test.YtjeilkenjdnafaaGreatDk39
import Derived.Test.YtjeilkenjdnafaaGreatDk33
import Derived.Test.YtjeilkenjdnafaaGreatDk37
import Derived.Test.YtjeilkenjdnafaaGreatDk09
import Derived.Test.YtjeilkenjdnafaaGreatDk27
import Derived.Test.YtjeilkenjdnafaaGreatDk38
import Derived.Test.YtjeilkenjdnafaaGreatDk13
import Derived.Deep.MidRow
import Derived.Test.YtjeilkenjdnafaaGreatDk32
import Derived.Test.YtjeilkenjdnafaaGreatDk30
import Derived.Test.YtjeilkenjdnafaaGreatDk12
import Derived.Test.YtjeilkenjdnafaaGreatDk11
import Derived.Test.YtjeilkenjdnafaaGreatDk10
import Derived.Test.YtjeilkenjdnafaaGreatDk36
set_option maxRecDepth 100000
set_option maxHeartbeats 3200000
namespace Go.Proofs.YtjeilkenjdnafaaGreat
section
open Go.RowKit
def hrd (f:Fc) (r:Nat) (n:Int):Prop:=mem (dotsG (f.es.map dotOf) r) n∨mem (runsAt f.p.P r) n
def PsD (f:Fc) (P:Pst) (er:Int):Prop:=(¬ FormF f/\er=1/\P=pv0.P)∨(FormF f/\er=0/\InForm P/\∀ r,r < 16 -> ∀ n,mem (runsAt P r) n↔hrd f r n)
def PsA (w w':World) (e:Ending) (f:Fc):Prop:=∃ (p:Pv) (er:Int),e = .returned (.tuple #[PV p,.int .i64 er])/\PSrc w' p/\PNew w.heap.size p/\Below w.heap.size w w'/\PsD f p.P er
attribute [local go_sem ↓] ldP_eq stP_eq ldFa_eq stFa_eq bsPs_eq
attribute [local go_sem] cells_PV PC_size cells_FaV FaC_size run_bsPs
theorem tPast_any (f:Fc) (w:World) (hF:FcOk w f):Calls Tryz.prog 35 #[FaV (mkF f)] w fun e w'=>PsA w w' e f:=by
 have b1:=below_new w (.cells (FaC (mkF f)) 29);have X1:=FaBox_new w (mkF f);obtain ⟨w1,hw1⟩:∃ w1,w.alloc (.cells (FaC (mkF f)) 29)=w1:=⟨_,rfl⟩
 have hs1:w1.heap.size=w.heap.size+1:=by rw [<- hw1];simp
 rw [hw1] at b1 X1;have x2:PBox (w1.alloc (.cells #[.slice none 0 0,.slice none 0 0] 26)) w1.heap.size pv0:=pbox_new w1 pv0;have b2:=below_new w1 (.cells #[.slice none 0 0,.slice none 0 0] 26);obtain ⟨w2,hw2⟩:∃ w2,w1.alloc (.cells #[.slice none 0 0,.slice none 0 0] 26)=w2:=⟨_,rfl⟩;rw [hw2] at x2 b2;rw [hs1] at x2;obtain ⟨G,hG0⟩:∃ G,w.heap.size=G:=⟨_,rfl⟩;rw [hG0] at X1 x2 hs1;have HX:=hide (X1.below b2);have HZ:=hide x2;have HBK:=hide (b1.trans (b2.mono b1.size));have HF:=hide (hF.below HBK.out);have HGs:Hid (w.heap.size=G):=hG0;clear hF b1 b2 X1 x2;have lf:=run_ldFa HX.out;go_enter Tryz.func35,Tryz.ntmps35;go_wp2_with fail;clear hw1 hw2 hs1 hG0 lf;refine (tCheck_any f _ HF.out).mono ?_;rintro e w3 ⟨x,rfl,hx,b3⟩;have HB3:=wTr HBK b3;have HX3:=hide (HX.out.below b3);have HZ3:=hide (HZ.out.below b3);have HF3:=hide (HF.out.below b3)
 clear b3;rcases hx with ⟨rfl,h1⟩ | ⟨rfl,h1⟩;rotate_left
 ·have t6:(stP (.pointer (some ⟨G+1,0,none⟩)) (.agg #[.slice none 0 0,.slice none 0 0])).run Tryz.prog w3 = .ok () (w3.setRow (G+1) (PC pv0)):=run_stP (p':=pv0) HZ3.out;have HX0:Hid (PBox (w3.setRow (G+1) (PC pv0)) (G+1) pv0):=setRow_heap _ _ _ _ _ _ HZ3.out;have HE:Hid (PsA w (w3.setRow (G+1) (PC pv0)) (.returned (.tuple #[PV pv0,.int .i64 1])) f):=⟨pv0,1,rfl,PSrc.zero _,⟨fun ad h=>(by cases h),fun ad h=>(by cases h)⟩,below_setRow HB3.out (by rw [HGs.out];omega),.inl ⟨h1,rfl,rfl⟩⟩;clear h1;go_wp2_with fail;clear t6;refine bodyPost_ret (res2Pn rfl rfl rfl HX0.out) rfl ?_;exact HE.out
 have HFo:=hide h1;clear h1;obtain ⟨c0,-⟩:=HX3.out.cs;go_wp2_with fail;clear c0;refine (dots_any f.ao f.an f.ac f.es _ HF3.out.es).mono ?_;rintro e w4 ⟨b4,⟨hc,p,rfl,S4,n4,C4⟩ | ⟨hc,-⟩⟩;rotate_left
 ·exact absurd ((chk_okN HF3.out.es.1).2 HFo.out.1) hc
 obtain ⟨g5,hg5⟩:∃ g,w4.heap.size=g:=⟨_,rfl⟩;have b5:=below_new w4 (.cells #[.slice none 0 0,.slice none 0 0] 26);have x5:PBox (w4.alloc (.cells #[.slice none 0 0,.slice none 0 0] 26)) w4.heap.size pv0:=pbox_new w4 pv0
 have z5:(w4.alloc (.cells #[.slice none 0 0,.slice none 0 0] 26)).heap.size=w4.heap.size+1:=by simp
 obtain ⟨w5,hw5⟩:∃ w5,w4.alloc (.cells #[.slice none 0 0,.slice none 0 0] 26)=w5:=⟨_,rfl⟩;rw [hw5] at b5 x5 z5;rw [hg5] at x5 z5;have s5:=run_stP (p':=p) x5;have B6:Below w4.heap.size w4 (w5.setRow g5 (PC p)):=below_setRow b5 (by omega);have X6:PBox (w5.setRow g5 (PC p)) g5 p:=setRow_heap _ _ _ _ _ _ x5;obtain ⟨w6,hw6⟩:∃ w6,w5.setRow g5 (PC p)=w6:=⟨_,rfl⟩;rw [hw6] at s5 B6 X6;have b46:=b4.trans (B6.mono b4.size);have HB6:=wTr HB3 b46;have HX6:=hide (HX3.out.below b46);have HZ6:=hide (HZ3.out.below b46);have HF6:=hide (HF3.out.below b46);have HP6:=hide (S4.below B6);have HQ6:=hide X6;have HC6:=hide C4
 have lp:=run_ldP X6.at
 have lq:=run_ldP HX6.out.past;have hPR:=prow2 w6 p f.p HP6.out HF6.out.p;have b7:=below_new w6 (.cells #[.slice p.vo p.vn p.vc,.slice p.co p.cn p.cc,.slice f.p.vo f.p.vn f.p.vc,.slice f.p.co f.p.cn f.p.cc] 26);have lb:=run_bsPs p f.p w6;obtain ⟨g7,hg7⟩:∃ g7,w6.heap.size=g7:=⟨_,rfl⟩;obtain ⟨w7,hw7⟩:∃ w7,w6.alloc (.cells #[.slice p.vo p.vn p.vc,.slice p.co p.cn p.cc,.slice f.p.vo f.p.vn f.p.vc,.slice f.p.co f.p.cn f.p.cc] 26)=w7:=⟨_,rfl⟩;rw [hw7] at hPR b7 lb;rw [hg7] at hPR lb;have HPR:=hide hPR;have HB7:=wTr HB6 b7;have HZ7:=hide (HZ6.out.below b7);clear hPR b7 hc S4 n4 C4 b4 b5 x5 B6 X6 b46 hw6;go_wp2_with fail;clear lp lq lb s5 hw5 hg5 hg7 hw7 z5;refine (pastJoin_any (some ⟨g7,0,none⟩) 2 2 [p,f.p] _ HPR.out (bsP2_wt (canon_iff.1 HC6.out.canon) HFo.out.2.1) (by decide)).mono ?_;rintro e w8 ⟨q,rfl,S8,n8,b8,C8⟩
 have hz:G+1+1 <= w7.heap.size:=by have:=HZ7.out.lt;omega
 obtain ⟨s1,e1,e2,e3,e4⟩:=past_end (w:=w) (HZ7.out.below b8) S8 (n8.mono hz) (HB7.out.trans (b8.mono HB7.out.size)) (by rw [HGs.out];omega);have HE1:=hide e1
 have HE:Hid (PsA w (w8.setRow (G+1) (PC q)) (.returned (.tuple #[PV q,.int .i64 0])) f):=⟨q,0,rfl,e2,e3,e4,.inr ⟨HFo.out,rfl,canon_iff.1 C8.canon,fun r hr n=>by
  rw [canon_mem C8 r hr n]
  show mem (runsAt p.P r++(runsAt f.p.P r++[])) n↔_
  rw [List.append_nil,mem_append,canon_mem HC6.out r hr n]
  exact Iff.rfl⟩⟩
 clear S8 n8 b8 C8 e1 e2 e3 e4 hz;go_wp2_with fail;clear s1;refine bodyPost_ret (res2Pn rfl rfl rfl HE1.out) rfl ?_;exact HE.out
end
section
open Go.RowKit
attribute [local go_sem ↓] ldP_eq stP_eq ldFa_eq stFa_eq ldSw_eq stSw_eq bldS_eq bsPs_eq
attribute [local go_sem] cells_PV PC_size cells_FaV FaC_size zero_FaZ run_bsPs run_bldS run_bldS0 zero_PC
end
section
open Go.RowKit
def LiA (w w':World) (x:Ending) (s:Fc):Prop:=∃ ao n c L er,x = .returned (.tuple #[.slice ao n c,.int .i64 er])/\K.ESrc w' ao n c L/\Below w.heap.size w w'/\((FormS s/\er=0/\L=s.es)∨(¬ FormS s/\er=1/\L=[]))
def PaA (w w':World) (x:Ending) (s:Fc):Prop:=∃ p er,x = .returned (.tuple #[PV p,.int .i64 er])/\PSrc w' p/\Below w.heap.size w w'/\((FormS s/\er=0/\p.P=s.p.P)∨(¬ FormS s/\er=1/\p=pv0))
attribute [local go_sem ↓] ldP_eq stP_eq ldSw_eq stSw_eq bldP_eq
attribute [local go_sem] cells_PV PC_size cells_FaV FaC_size run_bldP0 zero_PC
end
section
open Go.RowKit
variable {w w' : World} {g : Nat}
structure DigV where
 hvo:Option Addr
 hvn:Nat
 hvc:Nat
 hco:Option Addr
 hcn:Nat
 hcc:Nat
 lvo:Option Addr
 lvn:Nat
 lvc:Nat
 lco:Option Addr
 lcn:Nat
 lcc:Nat
def di0:DigV:=⟨none,0,0,none,0,0,none,0,0,none,0,0⟩
def DiC (m:DigV):Array Value:=#[.slice m.hvo m.hvn m.hvc,.slice m.hco m.hcn m.hcc,.slice m.lvo m.lvn m.lvc,.slice m.lco m.lcn m.lcc]
abbrev DiV (m:DigV):Value:=.agg (DiC m)
theorem DiC_size (m:DigV):(DiC m).size=4:=rfl
theorem DiC_one (m:DigV):∀ v∈(DiC m).toList,v.oneCell'=true:=by
 intro v hv;simp [DiC] at hv;rcases hv with rfl | rfl | rfl | rfl <;> rfl
theorem cells_DiV (m:DigV):(DiV m).cells=DiC m:=by simp [Value.cells]
structure DiAt (w:World) (a:Addr) (m:DigV):Prop where
 c0:w.cell? a=some (.slice m.hvo m.hvn m.hvc)
 c1:w.cell? (a.add 1)=some (.slice m.hco m.hcn m.hcc)
 c2:w.cell? (a.add 2)=some (.slice m.lvo m.lvn m.lvc)
 c3:w.cell? (a.add 3)=some (.slice m.lco m.lcn m.lcc)
theorem DiAt.on {a:Addr} {m:DigV} (S:DiAt w a m) (hb:Below w.heap.size w w'):DiAt w' a m:=by
 have h0:=World.block_lt_of_cell? _ _ S.c0;exact ⟨by rw [hb.cell h0];exact S.c0,by rw [hb.cell (by rw [block_of_add];exact h0)];exact S.c1,by rw [hb.cell (by rw [block_of_add];exact h0)];exact S.c2,by rw [hb.cell (by rw [block_of_add];exact h0)];exact S.c3⟩
def DiBox (w:World) (g:Nat) (m:DigV):Prop:=w.heap[g]? = some (.cells (DiC m) 33 (0,0))
theorem DiBox.lt {m:DigV} (h:DiBox w g m):g < w.heap.size:=(Array.getElem?_eq_some_iff.1 h).1
theorem DiBox.below {m:DigV} (h:DiBox w g m) (hb:Below w.heap.size w w'):DiBox w' g m:=(hb.block g h.lt).trans h
theorem DiBox.c0 {m:DigV} (h:DiBox w g m):w.cell? ⟨g,0,none⟩=some (.slice m.hvo m.hvn m.hvc):=by unfold DiBox at h;simp [World.cell?,h,DiC]
theorem DiBox.c1 {m:DigV} (h:DiBox w g m):w.cell? ⟨g,1,none⟩=some (.slice m.hco m.hcn m.hcc):=by unfold DiBox at h;simp [World.cell?,h,DiC]
theorem DiBox.c2 {m:DigV} (h:DiBox w g m):w.cell? ⟨g,2,none⟩=some (.slice m.lvo m.lvn m.lvc):=by unfold DiBox at h;simp [World.cell?,h,DiC]
theorem DiBox.c3 {m:DigV} (h:DiBox w g m):w.cell? ⟨g,3,none⟩=some (.slice m.lco m.lcn m.lcc):=by unfold DiBox at h;simp [World.cell?,h,DiC]
theorem DiBox_new (w:World) (m:DigV):DiBox (w.alloc (.cells (DiC m) 33)) w.heap.size m:=by unfold DiBox;rw [heap_alloc_new]
def ldDi (v:Value):Sem Value:=Instr.loadAt 33 v
theorem ldDi_eq (v:Value):Instr.loadAt 33 v=ldDi v:=rfl
def stDi (p v:Value):Sem Unit:=Instr.storeAt 33 p v
theorem stDi_eq (p v:Value):Instr.storeAt 33 p v=stDi p v:=rfl
theorem sizeDi:(Tryz.prog.info? 33).map (·.size)=some 4:=by kernel_rfl
theorem DiBox.range {m:DigV} (h:DiBox w g m):w.rangeAt g 0 (DiC m).toList:=by
 intro j v hv;rw [Nat.zero_add];unfold DiBox at h;simp only [Array.getElem?_toList] at hv;simp [World.cell?,h,hv]
theorem run_lvDi {m:DigV} (A:DiBox w g m):(loadVar 33 ⟨g,0,none⟩).run Tryz.prog w = .ok (DiV m) w:=by
 have:=run_loadVar_mid (P:=Tryz.prog) w g 0 33 (DiC m).toList _ A.range Tryz.underlying33 rfl (by rw [sizeDi];rfl);simpa using this
theorem run_ldDi {m:DigV} (A:DiBox w g m):(ldDi (.pointer (some ⟨g,0,none⟩))).run Tryz.prog w = .ok (.agg (DiC m)) w:=by
 unfold ldDi;simp only [Instr.loadAt,Instr.sureAddr,Sem.run_bind,Sem.run_pure,Result.andThen];exact run_lvDi A
theorem run_stDi {m m':DigV} (A:DiBox w g m):(stDi (.pointer (some ⟨g,0,none⟩)) (.agg (DiC m'))).run Tryz.prog w = .ok () (w.setRow g (DiC m')):=by
 unfold stDi;have h:=run_storeCells_from (P:=Tryz.prog) g 33 (DiC m').toList 0 (DiC m) w A (by simp [DiC]) (DiC_one m')
 cases hq:Tryz.prog.info? 33 with
 | none=>have:=sizeDi;simp [hq] at this
 | some x =>
  have hs:x.size=4:=by have:=sizeDi;simpa [hq] using this
  simp only [Instr.storeAt,Instr.sureAddr,Sem.run_bind,Sem.run_pure,Result.andThen,storeVar,sizeOf,typeInfo,cells_DiV,DiC_size];simp at h;simp [h,hq,hs]
theorem DiBox.setRow {m m':DigV} (A:DiBox w g m):DiBox (w.setRow g (DiC m')) g m':=setRow_heap w g _ _ _ _ A
end
section
open Go.RowKit
attribute [local go_sem ↓] ldP_eq stP_eq ldDi_eq stDi_eq
attribute [local go_sem] cells_PV PC_size cells_DiV DiC_size
variable {w w' w2 W W' : World} {g : Nat}

structure Dg where
 h:Pv
 l:Pv
def mkD (d:Dg):DigV:=⟨d.h.vo,d.h.vn,d.h.vc,d.h.co,d.h.cn,d.h.cc,d.l.vo,d.l.vn,d.l.vc,d.l.co,d.l.cn,d.l.cc⟩
def DgOk (w:World) (d:Dg):Prop:=PSrc w d.h/\PSrc w d.l
theorem DgOk.below {d:Dg} (h:DgOk w d) (b:Below w.heap.size w w'):DgOk w' d:=⟨h.1.below b,h.2.below b⟩
theorem DiBox.heard {d:Dg} (h:DiBox w g (mkD d)):PAt w ⟨g,0,none⟩ d.h:=⟨h.c0,by rw [Addr.add_lit];exact h.c1⟩
theorem DiBox.live {d:Dg} (h:DiBox w g (mkD d)):PAt w ⟨g,2,none⟩ d.l:=⟨h.c2,by rw [Addr.add_lit];exact h.c3⟩
def InP (a b:Pst):Prop:=∀ r,r < 16 -> ∀ n,mem (runsAt a r) n -> mem (runsAt b r) n
def FormD (H L:Pst):Prop:=InForm H/\InForm L/\InP L H
def CkD (w w':World) (e:Ending) (P:Prop):Prop:=∃ x,e = .returned (.int .i64 x)/\((x=1/\¬ P)∨(x=0/\P))/\Below w.heap.size w w'
theorem dcheck_any (d:Dg) (w:World) (hS:DgOk w d):Calls Tryz.prog 16 #[DiV (mkD d)] w fun e w'=>CkD w w' e (FormD d.h.P d.l.P):=by
 have HX:=hide (DiBox_new w (mkD d));have HB:=hide (below_new w (.cells (DiC (mkD d)) 33));have HS:=hide (hS.below HB.out);clear hS;obtain ⟨wk,hwk⟩:∃ wk,w.alloc (.cells (DiC (mkD d)) 33)=wk:=⟨_,rfl⟩;obtain ⟨G,hG⟩:∃ G,w.heap.size=G:=⟨_,rfl⟩;rw [hwk] at HX HB HS;rw [hG] at HX;have l1:=run_ldP HX.out.heard;go_enter Tryz.func16,Tryz.ntmps16;go_wp2_with fail;clear hwk hG;refine (isNormP_any d.h _ HS.out.1).mono ?_;rintro e w2 ⟨b,rfl,hb,b2⟩;have HB2:=wTr HB b2;have HX2:=hide (HX.out.below b2);have HS2:=hide (HS.out.below b2);clear b2 l1 HX HB HS
 cases b with
 | false =>
  have HN:Hid (¬ FormD d.h.P d.l.P):=fun h=>by have:=hb.out.2 h.1;cases this
  clear hb;go_wp2_with fail;go_ret;exact ⟨1,rfl,.inl ⟨rfl,HN.out⟩,HB2.out⟩
 | true =>
  have H1:Hid (InForm d.h.P):=hb.out.1 rfl;clear hb;have l2:=run_ldP HX2.out.live;go_wp2_with fail;refine (isNormP_any d.l _ HS2.out.2).mono ?_;rintro e w3 ⟨b,rfl,hb,b3⟩;have HB3:=wTr HB2 b3;have HX3:=hide (HX2.out.below b3);have HS3:=hide (HS2.out.below b3);clear b3 l2 HX2 HB2 HS2
  cases b with
  | false =>
   have HN:Hid (¬ FormD d.h.P d.l.P):=fun h=>by have:=hb.out.2 h.2.1;cases this
   clear hb;go_wp2_with fail;go_ret;exact ⟨1,rfl,.inl ⟨rfl,HN.out⟩,HB3.out⟩
  | true =>
   have H2:Hid (InForm d.l.P):=hb.out.1 rfl;clear hb;have l3:=run_ldP HX3.out.live;have l4:=run_ldP HX3.out.heard;go_wp2_with fail;refine (pastWithin_any d.l d.h _ HS3.out.2 HS3.out.1).mono ?_;rintro e w4 ⟨x,rfl,hx,b4⟩;have HB4:=wTr HB3 b4;have HI:Hid (BIf x (InP d.l.P d.h.P)):=hx;clear hx b4 l3 l4
   cases x with
   | false =>
    have HN:Hid (¬ FormD d.h.P d.l.P):=fun h=>by have:=HI.out.2 h.2.2;cases this
    clear HI;go_wp2_with fail;go_ret;exact ⟨1,rfl,.inl ⟨rfl,HN.out⟩,HB4.out⟩
   | true =>
    have HN:Hid (FormD d.h.P d.l.P):=⟨H1.out,H2.out,HI.out.1 rfl⟩;clear HI;go_wp2_with fail;go_ret;exact ⟨0,rfl,.inr ⟨rfl,HN.out⟩,HB4.out⟩
theorem rinForm14_any (d:Dg) (w:World) (hS:DgOk w d):Calls Tryz.prog 25 #[DiV (mkD d)] w fun e w'=>GivB w w' e (FormD d.h.P d.l.P):=by
 have HX:=hide (DiBox_new w (mkD d));have HB:=hide (below_new w (.cells (DiC (mkD d)) 33));have HS:=hide (hS.below HB.out);clear hS;obtain ⟨wk,hwk⟩:∃ wk,w.alloc (.cells (DiC (mkD d)) 33)=wk:=⟨_,rfl⟩;obtain ⟨G,hG⟩:∃ G,w.heap.size=G:=⟨_,rfl⟩;rw [hwk] at HX HB HS;rw [hG] at HX;have l1:=run_ldP HX.out.heard;go_enter Tryz.func25,Tryz.ntmps25;go_wp2_with fail;clear hwk hG;refine (refIsNorm_any d.h _ HS.out.1).mono ?_;rintro e w2 ⟨b,rfl,hb,b2⟩;have HB2:=wTr HB b2;have HX2:=hide (HX.out.below b2);have HS2:=hide (HS.out.below b2);have HI1:Hid (BIf b (InForm d.h.P)):=hb;clear b2 l1 HX HB HS hb
 cases b with
 | false =>
  have HN:Hid (BIf false (FormD d.h.P d.l.P)):=⟨(fun h=>by cases h),fun h=>HI1.out.2 h.1⟩;clear HI1;go_wp2_with fail;go_ret;exact ⟨false,rfl,HN.out,HB2.out⟩
 | true =>
  have H1:Hid (InForm d.h.P):=HI1.out.1 rfl;clear HI1;have l2:=run_ldP HX2.out.live;go_wp2_with fail;refine (refIsNorm_any d.l _ HS2.out.2).mono ?_;rintro e w3 ⟨b,rfl,hb,b3⟩;have HB3:=wTr HB2 b3;have HX3:=hide (HX2.out.below b3);have HS3:=hide (HS2.out.below b3);have HI2:Hid (BIf b (InForm d.l.P)):=hb;clear b3 l2 HX2 HB2 HS2 hb
  cases b with
  | false =>
   have HN:Hid (BIf false (FormD d.h.P d.l.P)):=⟨(fun h=>by cases h),fun h=>HI2.out.2 h.2.1⟩;clear HI2;go_wp2_with fail;go_ret;exact ⟨false,rfl,HN.out,HB3.out⟩
  | true =>
   have H2:Hid (InForm d.l.P):=HI2.out.1 rfl;clear HI2;have l3:=run_ldP HX3.out.live;have l4:=run_ldP HX3.out.heard;go_wp2_with fail;refine (refWithin_any d.l d.h _ HS3.out.2 HS3.out.1).mono ?_;rintro e w4 ⟨x,rfl,hx,b4⟩;have HB4:=wTr HB3 b4;have HN:Hid (BIf x (FormD d.h.P d.l.P)):=⟨fun h=>⟨H1.out,H2.out,hx.1 h⟩,fun h=>hx.2 h.2.2⟩;clear hx b4 l3 l4;go_wp2_with fail;go_ret;exact ⟨x,rfl,HN.out,HB4.out⟩
end
section
open Go.RowKit
def dz0:Dg:=⟨pv0,pv0⟩
theorem dz_ok (w:World):DgOk w dz0:=⟨PSrc.zero w,PSrc.zero w⟩
def liveF (f:Fc):List K.En:=f.es.filter (lvB f.p.P f.rs)
theorem live_L (f:Fc):liveL f=liveF f:=by
 unfold liveL liveF;rw [List.filter_filter];congr 1
 funext e
 unfold lvB pkB
 cases inB f.p.P e <;> cases freeB f.rs e <;> rfl
def DoF (f:Fc) (d:Dg):Prop:=HeardOf f d.h.P/\CanonOf (dotsG ((liveF f).map dotOf)) d.l.P
def DoS (s:Fc) (d:Dg):Prop:=d.h.P=s.p.P/\CanonOf (dotsG (s.es.map dotOf)) d.l.P
def EqD (a b:Dg):Prop:=a.h.P=b.h.P/\a.l.P=b.l.P
def OfR (P:Prop) (D:Dg -> Prop) (d:Dg) (er:Int):Prop:=(¬ P/\er=1/\d=dz0)∨(P/\er=0/\D d)
def OfE (w w':World) (x:Ending) (P:Prop) (D:Dg -> Prop):Prop:=∃ d er,x = .returned (.tuple #[DiV (mkD d),.int .i64 er])/\DgOk w' d/\Below w.heap.size w w'/\OfR P D d er
theorem live_exf {s:Fc} {q:Pv} (hf:FormS s) (x:ExQ s q):liveF (exf s q)=s.es:=by
 unfold liveF;refine List.filter_eq_self.2 fun e he=>?_
 show lvB q.P s.rs e=true
 unfold lvB;rw [hf.2.2.2 e he,Bool.and_true,Bool.not_eq_true',Bool.eq_false_iff];intro h;exact ((exq_inB x e).1 h).2 ⟨e,he,rfl⟩
theorem heard_exf {s:Fc} {q:Pv} {P:Pst} (hf:FormS s) (x:ExQ s q) (h:HeardOf (exf s q) P):P=s.p.P:=by
 refine pst_ext h.1 hf.1.2.1 fun e=>?_;rw [heard_inB h]
 show (okD (dotOf e)=true/\∃ x∈s.es,dotOf x=dotOf e)∨inB q.P e=true↔inB s.p.P e=true
 rw [exq_inB x];constructor
 ·rintro (⟨-,y,hy,hd⟩ | h)
  ·rw [<- dot_inB hd];exact hf.2.1 y hy
  ·exact h.1
 ·intro h;by_cases k:∃ y∈s.es,dotOf y=dotOf e
  ·exact .inl ⟨inB_okDS h,k⟩
  ·exact .inr ⟨h,k⟩
theorem ps_heard {f:Fc} {P:Pst} {er:Int} (h:PsD f P er):(¬ FormF f/\er=1/\P=pv0.P)∨(FormF f/\er=0/\HeardOf f P):=by
 rcases h with h | ⟨h1,h2,h3,h4⟩
 ·exact .inl h
 ·exact .inr ⟨h1,h2,h3,h4⟩
end
section
open Go.RowKit
theorem DiBox.ne {W:World} {g:Nat} {m:DigV} (A:DiBox W g m) {a:Addr} {v:Value} (hc:W.cell? a=some v) (hv:∀ o n c,v ≠ .slice o n c):a.block≠g:=by
 rintro rfl;obtain ⟨b,o,k⟩:=a;unfold DiBox at A;have h:=World.cell?_spot hc;obtain rfl:k=none:=h;simp only [World.cell?,A] at hc;rcases o with _ | _ | _ | _ | o <;> simp [DiC] at hc
 all_goals exact absurd hc.symm (hv _ _ _)
theorem psrc_offD {W:World} {g:Nat} {m:DigV} {p:Pv} (A:DiBox W g m) (h:PSrc W p) (c:Array Value):PSrc (W.setRow g c) p:=by
 refine ⟨⟨h.vec.1,h.vec.2.1,fun ad e t ht=>?_⟩,⟨h.cloud.len,h.cloud.nil,fun ad e t ht=>?_,h.cloud.big,h.cloud.cap⟩,h.big⟩
 ·have B:=h.vec.2.2 ad e t ht;rw [cell_off c (A.ne B (fun _ _ _ h=>by cases h))];exact B
 ·have B:=h.cloud.cell ad e t ht;have hb:=A.ne B.c0 (fun _ _ _ h=>by cases h);exact ⟨by rw [cell_off c hb];exact B.c0,by rw [cell_off c (by rw [block_add];exact hb)];exact B.c1,by rw [cell_off c (by rw [block_add];exact hb)];exact B.c2⟩
theorem DgOk.offD {W:World} {g:Nat} {m:DigV} {d:Dg} (h:DgOk W d) (A:DiBox W g m) (c:Array Value):DgOk (W.setRow g c) d:=⟨psrc_offD A h.1 c,psrc_offD A h.2 c⟩
def DgS (w w':World) (e:Ending) (D:Dg -> Prop):Prop:=∃ d,e = .returned (DiV (mkD d))/\DgOk w' d/\Below w.heap.size w w'/\D d
def bldDg (a:Array (Nat × Value)):Sem Value:=Instr.build 33 a
theorem bldDg_eq (a:Array (Nat × Value)):Instr.build 33 a=bldDg a:=rfl
theorem run_bldDg0 (w:World):(bldDg #[]).run Tryz.prog w = .ok (.agg (DiC (mkD dz0))) w:=by kernel_rfl
theorem run_bldDg (p q:Pv) (w:World):(bldDg #[(0,.agg (PC p)),(1,.agg (PC q))]).run Tryz.prog w = .ok (.agg (DiC (mkD ⟨p,q⟩))) w:=by kernel_rfl
theorem zero_DiZ:(#[.slice none 0 0,.slice none 0 0,.slice none 0 0,.slice none 0 0]:Array Value)=DiC (mkD dz0):=rfl
theorem res2Di {w:World} {g:Nat} {fn:Func} {p q:Tmp} {m:DigV} {v:Value} (h:fn.results=#[.cell p 33,.tmp q]) {tmps:Array Value} (hp:tmps.getD p undef = .pointer (some ⟨g,0,none⟩)) (hq:tmps.getD q undef=v) (A:DiBox w g m) :
  (results fn tmps).run Tryz.prog w = .ok (.tuple #[DiV m,v]) w:=by
 have hl:=run_lvDi A;simp only [results,h];rw [Array.getD_eq_getD_getElem?] at hp hq;simp [hp,hq,asAddr,hl]
theorem boxFD (w:World) (f:Fc):∃ wk,(w.alloc (.cells (FaC (mkF f)) 29)).alloc (.cells (DiC (mkD dz0)) 33)=wk/\Hid (FaBox wk w.heap.size (mkF f))/\Hid (DiBox wk (w.heap.size+1) (mkD dz0))/\Hid (Below w.heap.size w wk):=by
 have b1:=below_new w (.cells (FaC (mkF f)) 29);have b2:=below_new (w.alloc (.cells (FaC (mkF f)) 29)) (.cells (DiC (mkD dz0)) 33);have X2:=DiBox_new (w.alloc (.cells (FaC (mkF f)) 29)) (mkD dz0);rw [World.size_alloc] at X2;exact ⟨_,rfl,(FaBox_new w (mkF f)).below b2,X2,b1.trans (b2.mono b1.size)⟩
attribute [local go_sem ↓] ldP_eq stP_eq ldFa_eq stFa_eq ldSw_eq stSw_eq ldDi_eq stDi_eq bldDg_eq
attribute [local go_sem] cells_PV PC_size zero_PC cells_FaV FaC_size cells_DiV DiC_size zero_DiZ run_bldDg0 run_bldDg
theorem ofFacts_any (f:Fc) (w:World) (hS:SwU w f):Calls Tryz.prog 11 #[FaV (mkF f)] w fun e w'=>OfE w w' e (FormF f) (DoF f):=by
 obtain ⟨wk,hwk,HX,HZ,HBK⟩:=boxFD w f;obtain ⟨G,hG0⟩:∃ G,w.heap.size=G:=⟨_,rfl⟩;rw [hG0] at HX HZ;have HGs:Hid (w.heap.size=G):=hG0;have HU:=hide (hS.below HBK.out);clear hS;have l0:=run_ldFa HX.out;go_enter Tryz.func11,Tryz.ntmps11;go_wp2_with fail;clear hwk hG0 l0;refine (tPast_any f _ HU.out.ok).mono ?_;rintro e v3 ⟨p,er,rfl,Sp,-,b3,hp⟩;obtain ⟨g4,hg4⟩:∃ g,v3.heap.size=g:=⟨_,rfl⟩;obtain ⟨w3,hst,X3,B3,-⟩:=madeP v3 p g4 hg4;have b33:=b3.trans (B3.mono b3.size);have HB3:=hide b33;have HX4:=hide X3;have HSp:=hide (Sp.below B3);have HP:=hide (ps_heard hp);have A3:=HZ.out.below b33;clear Sp b3 hp X3 B3 b33;rcases HP.out with ⟨h1,rfl,-⟩ | ⟨h1,rfl,h2⟩
 ·have st:=run_stDi (m':=mkD dz0) A3;have HE1:Hid (DiBox (w3.setRow (G+1) (DiC (mkD dz0))) (G+1) (mkD dz0)):=A3.setRow;have HE:Hid (OfE w (w3.setRow (G+1) (DiC (mkD dz0))) (.returned (.tuple #[DiV (mkD dz0),.int .i64 1])) (FormF f) (DoF f)):=⟨dz0,1,rfl,dz_ok _,below_setRow (HBK.out.trans (HB3.out.mono HBK.out.size)) (by rw [HGs.out];omega),.inl ⟨h1,rfl,rfl⟩⟩;clear h1 A3 HP;go_wp2_with fail;clear st hst hg4;refine bodyPost_ret (res2Di rfl rfl rfl HE1.out) rfl ?_;exact HE.out
 ·have HFo:=hide h1;have HH:=hide h2;have HZ3:=hide A3;have l0:=run_ldFa (HX.out.below HB3.out);clear h1 h2 A3 HP;go_wp2_with fail;clear l0 hst hg4;refine (tLive_any f _ (HU.out.ok.below HB3.out) HU.out.wt HU.out.nm).mono ?_;rintro e w4 hL;obtain ⟨lo,ln,lc,rfl,SL,b4,-⟩:K.GivesEE w3 w4 e (liveF f) 0:=hL.elim (fun h=>by have:=h.2;rwa [live_L] at this) fun h=>absurd HFo.out h.1;have HB4:=wTr HB3 b4;have HSL:=hide SL;have HX44:=hide (HX4.out.below b4);have HSp4:=hide (HSp.out.below b4);have HZ4:=hide (HZ3.out.below b4);clear hL SL b4;go_wp2_with fail;refine (dots_any lo ln lc _ _ HSL.out).mono ?_;rintro e v5 ⟨b5,hd⟩;obtain ⟨q,rfl,Sq,-,Cq⟩:∃ q:Pv,e = .returned (.tuple #[PV q,.int .i64 0])/\PSrc v5 q/\PNew w4.heap.size q/\CanonOf (dotsG ((liveF f).map dotOf)) q.P:=hd.elim (fun h=>h.2) fun h=>absurd (by unfold liveF;exact chk_filter ((chk_okS HU.out.ok.es.1).2 HFo.out.1) _) h.1
  obtain ⟨g6,hg6⟩:∃ g,v5.heap.size=g:=⟨_,rfl⟩;obtain ⟨w5,hst,X5,B5,-⟩:=madeP v5 q g6 hg6;have b55:=b5.trans (B5.mono b5.size);have HB5:=wTr HB4 b55;have A5:=HZ4.out.below b55;have st:=run_stDi (m':=mkD ⟨p,q⟩) A5
  have lp:=run_ldP (HX44.out.below b55).at
  have lq:=run_ldP X5.at
  have HE1:Hid (DiBox (w5.setRow (G+1) (DiC (mkD ⟨p,q⟩))) (G+1) (mkD ⟨p,q⟩)):=A5.setRow;have HE:Hid (OfE w (w5.setRow (G+1) (DiC (mkD ⟨p,q⟩))) (.returned (.tuple #[DiV (mkD ⟨p,q⟩),.int .i64 0])) (FormF f) (DoF f)):=⟨⟨p,q⟩,0,rfl,DgOk.offD (d:=⟨p,q⟩) ⟨HSp4.out.below b55,Sq.below B5⟩ A5 _,below_setRow (HBK.out.trans (HB5.out.mono HBK.out.size)) (by rw [HGs.out];omega),.inr ⟨HFo.out,rfl,HH.out,Cq⟩⟩;clear b5 hd Sq Cq X5 B5 b55 A5;go_wp2_with fail;clear st hst hg6 lp lq;refine bodyPost_ret (res2Di rfl rfl rfl HE1.out) rfl ?_;exact HE.out
end
end Go.Proofs.YtjeilkenjdnafaaGreat
