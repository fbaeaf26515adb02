/- TPs SXe SXs ZDg ZCk YDa YDb YDk PVw LView TVf SXt -/
import Derived.Test.YtjeilkenjdnafaaGreatTk
import Derived.Test.YtjeilkenjdnafaaGreatDt40
import Derived.Test.YtjeilkenjdnafaaGreatDt39
import Derived.Test.YtjeilkenjdnafaaGreatDt33
import Derived.Test.YtjeilkenjdnafaaGreatDt37
import Derived.Test.YtjeilkenjdnafaaGreatDt09
import Derived.Test.YtjeilkenjdnafaaGreatDt27
import Derived.Test.YtjeilkenjdnafaaGreatDt38
import Derived.Test.YtjeilkenjdnafaaGreatDt13
import Derived.Deep.MidRow
import Derived.Test.YtjeilkenjdnafaaGreatDt32
import Derived.Test.YtjeilkenjdnafaaGreatDt30
import Derived.Test.YtjeilkenjdnafaaGreatDt12
import Derived.Test.YtjeilkenjdnafaaGreatDt11
import Derived.Test.YtjeilkenjdnafaaGreatDt10
import Derived.Test.YtjeilkenjdnafaaGreatDt36
import Derived.Test.YtjeilkenjdnafaaGreatDt21
import Derived.Test.YtjeilkenjdnafaaGreatDt00
import Derived.ProofKit
import Derived.OpenShut
import Derived.Lib.SmallJoins
import Derived.HandedShaped
import Derived.SizedLaws
import Derived.ChangeMaps5
import Derived.JoinedCond
import Derived.Test.YtjeilkenjdnafaaGreatDt15
set_option maxRecDepth 100000
set_option maxHeartbeats 3200000
namespace Go.Proofs.YtjeilkenjdnafaaGreat
section
open Go.RowKit
def hrd (f:Fc) (r:Nat) (n:Int):Prop:=mem (dotsG (f.es.map dotOf) r) n∨mem (runsAt f.p.P r) n
def PsD (f:Fc) (P:Pst) (er:Int):Prop:=(¬ FormF f/\er=1/\P=pv0.P)∨(FormF f/\er=0/\InForm P/\∀ r,r < 16 -> ∀ n,mem (runsAt P r) n↔hrd f r n)
def PsA (w w':World) (e:Ending) (f:Fc):Prop:=∃ (p:Pv) (er:Int),e = .returned (.tuple #[PV p,.int .i64 er])/\PSrc w' p/\PNew w.heap.size p/\Below w.heap.size w w'/\PsD f p.P er
attribute [local go_sem ↓] ldP_eq stP_eq ldFa_eq stFa_eq bsPs_eq
attribute [local go_sem] cells_PV PC_size cells_FaV FaC_size run_bsPs
theorem tPast_any (f:Fc) (w:World) (hF:FcOk w f):Calls Tryz.prog 35 #[FaV (mkF f)] w fun e w'=>PsA w w' e f:=by
 have b1:=below_new w (.cells (FaC (mkF f)) 29);have X1:=FaBox_new w (mkF f);obtain ⟨w1,hw1⟩:∃ w1,w.alloc (.cells (FaC (mkF f)) 29)=w1:=⟨_,rfl⟩
 have hs1:w1.heap.size=w.heap.size+1:=by rw [<- hw1];simp
 rw [hw1] at b1 X1;have x2:PBox (w1.alloc (.cells #[.slice none 0 0,.slice none 0 0] 26)) w1.heap.size pv0:=pbox_new w1 pv0;have b2:=below_new w1 (.cells #[.slice none 0 0,.slice none 0 0] 26);obtain ⟨w2,hw2⟩:∃ w2,w1.alloc (.cells #[.slice none 0 0,.slice none 0 0] 26)=w2:=⟨_,rfl⟩;rw [hw2] at x2 b2;rw [hs1] at x2;obtain ⟨G,hG0⟩:∃ G,w.heap.size=G:=⟨_,rfl⟩;rw [hG0] at X1 x2 hs1;have HX:=hide (X1.below b2);have HZ:=hide x2;have HBK:=hide (b1.trans (b2.mono b1.size));have HF:=hide (hF.below HBK.out);have HGs:Hid (w.heap.size=G):=hG0;clear hF b1 b2 X1 x2;have lf:=run_ldFa HX.out;go_enter Tryz.func35,Tryz.ntmps35;go_wp2_with fail;clear hw1 hw2 hs1 hG0 lf;refine (tCheck_any f _ HF.out).mono ?_;rintro e w3 ⟨x,rfl,hx,b3⟩;have HB3:=wTr HBK b3;have HX3:=hide (HX.out.below b3);have HZ3:=hide (HZ.out.below b3);have HF3:=hide (HF.out.below b3)
 clear b3;rcases hx with ⟨rfl,h1⟩ | ⟨rfl,h1⟩;rotate_left
 ·have t6:(stP (.pointer (some ⟨G+1,0,none⟩)) (.agg #[.slice none 0 0,.slice none 0 0])).run Tryz.prog w3 = .ok () (w3.setRow (G+1) (PC pv0)):=run_stP (p':=pv0) HZ3.out;have HX0:Hid (PBox (w3.setRow (G+1) (PC pv0)) (G+1) pv0):=setRow_heap _ _ _ _ _ _ HZ3.out;have HE:Hid (PsA w (w3.setRow (G+1) (PC pv0)) (.returned (.tuple #[PV pv0,.int .i64 1])) f):=⟨pv0,1,rfl,PSrc.zero _,⟨fun ad h=>(by cases h),fun ad h=>(by cases h)⟩,below_setRow HB3.out (by rw [HGs.out];omega),.inl ⟨h1,rfl,rfl⟩⟩;clear h1;go_wp2_with fail;clear t6;refine bodyPost_ret (res2Pn rfl rfl rfl HX0.out) rfl ?_;exact HE.out
 have HFo:=hide h1;clear h1;obtain ⟨c0,-⟩:=HX3.out.cs;go_wp2_with fail;clear c0;refine (dots_any f.ao f.an f.ac f.es _ HF3.out.es).mono ?_;rintro e w4 ⟨b4,⟨hc,p,rfl,S4,n4,C4⟩ | ⟨hc,-⟩⟩;rotate_left
 ·exact absurd ((chk_okN HF3.out.es.1).2 HFo.out.1) hc
 obtain ⟨g5,hg5⟩:∃ g,w4.heap.size=g:=⟨_,rfl⟩;have b5:=below_new w4 (.cells #[.slice none 0 0,.slice none 0 0] 26);have x5:PBox (w4.alloc (.cells #[.slice none 0 0,.slice none 0 0] 26)) w4.heap.size pv0:=pbox_new w4 pv0
 have z5:(w4.alloc (.cells #[.slice none 0 0,.slice none 0 0] 26)).heap.size=w4.heap.size+1:=by simp
 obtain ⟨w5,hw5⟩:∃ w5,w4.alloc (.cells #[.slice none 0 0,.slice none 0 0] 26)=w5:=⟨_,rfl⟩;rw [hw5] at b5 x5 z5;rw [hg5] at x5 z5;have s5:=run_stP (p':=p) x5;have B6:Below w4.heap.size w4 (w5.setRow g5 (PC p)):=below_setRow b5 (by omega);have X6:PBox (w5.setRow g5 (PC p)) g5 p:=setRow_heap _ _ _ _ _ _ x5;obtain ⟨w6,hw6⟩:∃ w6,w5.setRow g5 (PC p)=w6:=⟨_,rfl⟩;rw [hw6] at s5 B6 X6;have b46:=b4.trans (B6.mono b4.size);have HB6:=wTr HB3 b46;have HX6:=hide (HX3.out.below b46);have HZ6:=hide (HZ3.out.below b46);have HF6:=hide (HF3.out.below b46);have HP6:=hide (S4.below B6);have HQ6:=hide X6;have HC6:=hide C4
 have lp:=run_ldP X6.at
 have lq:=run_ldP HX6.out.past;have hPR:=prow2 w6 p f.p HP6.out HF6.out.p;have b7:=below_new w6 (.cells #[.slice p.vo p.vn p.vc,.slice p.co p.cn p.cc,.slice f.p.vo f.p.vn f.p.vc,.slice f.p.co f.p.cn f.p.cc] 26);have lb:=run_bsPs p f.p w6;obtain ⟨g7,hg7⟩:∃ g7,w6.heap.size=g7:=⟨_,rfl⟩;obtain ⟨w7,hw7⟩:∃ w7,w6.alloc (.cells #[.slice p.vo p.vn p.vc,.slice p.co p.cn p.cc,.slice f.p.vo f.p.vn f.p.vc,.slice f.p.co f.p.cn f.p.cc] 26)=w7:=⟨_,rfl⟩;rw [hw7] at hPR b7 lb;rw [hg7] at hPR lb;have HPR:=hide hPR;have HB7:=wTr HB6 b7;have HZ7:=hide (HZ6.out.below b7);clear hPR b7 hc S4 n4 C4 b4 b5 x5 B6 X6 b46 hw6;go_wp2_with fail;clear lp lq lb s5 hw5 hg5 hg7 hw7 z5;refine (pastJoin_any (some ⟨g7,0,none⟩) 2 2 [p,f.p] _ HPR.out (bsP2_wt (canon_iff.1 HC6.out.canon) HFo.out.2.1) (by decide)).mono ?_;rintro e w8 ⟨q,rfl,S8,n8,b8,C8⟩
 have hz:G+1+1 <= w7.heap.size:=by have:=HZ7.out.lt;omega
 obtain ⟨s1,e1,e2,e3,e4⟩:=past_end (w:=w) (HZ7.out.below b8) S8 (n8.mono hz) (HB7.out.trans (b8.mono HB7.out.size)) (by rw [HGs.out];omega);have HE1:=hide e1
 have HE:Hid (PsA w (w8.setRow (G+1) (PC q)) (.returned (.tuple #[PV q,.int .i64 0])) f):=⟨q,0,rfl,e2,e3,e4,.inr ⟨HFo.out,rfl,canon_iff.1 C8.canon,fun r hr n=>by
  rw [canon_mem C8 r hr n]
  show mem (runsAt p.P r++(runsAt f.p.P r++[])) n↔_
  rw [List.append_nil,mem_append,canon_mem HC6.out r hr n]
  exact Iff.rfl⟩⟩
 clear S8 n8 b8 C8 e1 e2 e3 e4 hz;go_wp2_with fail;clear s1;refine bodyPost_ret (res2Pn rfl rfl rfl HE1.out) rfl ?_;exact HE.out
end
section
open Go.RowKit
attribute [local go_sem ↓] ldP_eq stP_eq ldFa_eq stFa_eq ldSw_eq stSw_eq bldS_eq bsPs_eq
attribute [local go_sem] cells_PV PC_size cells_FaV FaC_size zero_FaZ run_bsPs run_bldS run_bldS0 zero_PC
end
section
open Go.RowKit
def LiA (w w':World) (x:Ending) (s:Fc):Prop:=∃ ao n c L er,x = .returned (.tuple #[.slice ao n c,.int .i64 er])/\K.ESrc w' ao n c L/\Below w.heap.size w w'/\((FormS s/\er=0/\L=s.es)∨(¬ FormS s/\er=1/\L=[]))
def PaA (w w':World) (x:Ending) (s:Fc):Prop:=∃ p er,x = .returned (.tuple #[PV p,.int .i64 er])/\PSrc w' p/\Below w.heap.size w w'/\((FormS s/\er=0/\p.P=s.p.P)∨(¬ FormS s/\er=1/\p=pv0))
attribute [local go_sem ↓] ldP_eq stP_eq ldSw_eq stSw_eq bldP_eq
attribute [local go_sem] cells_PV PC_size cells_FaV FaC_size run_bldP0 zero_PC
theorem swPast_any (s:Fc) (w:World) (hS:SwU w s):Calls Tryz.prog 40 #[FaV (mkF s)] w fun e w'=>PaA w w' e s:=by
 have b1:=below_new w (.cells (FaC (mkF s)) 31);have X1:=SwBox_new w (mkF s);obtain ⟨w1,hw1⟩:∃ w1,w.alloc (.cells (FaC (mkF s)) 31)=w1:=⟨_,rfl⟩
 have hs1:w1.heap.size=w.heap.size+1:=by rw [<- hw1];simp
 rw [hw1] at b1 X1;have x2:PBox (w1.alloc (.cells (PC pv0) 26)) w1.heap.size pv0:=pbox_new w1 pv0;have b2:=below_new w1 (.cells (PC pv0) 26);obtain ⟨wk,hwk⟩:∃ w2,w1.alloc (.cells (PC pv0) 26)=w2:=⟨_,rfl⟩;rw [hwk] at x2 b2;rw [hs1] at x2;obtain ⟨G,hG0⟩:∃ G,w.heap.size=G:=⟨_,rfl⟩;rw [hG0] at X1 x2 hs1;have HX:=hide (X1.below b2);have HZ:=hide x2;have HBK:=hide (b1.trans (b2.mono b1.size));have HS:=hide (hS.below HBK.out);have HGs:Hid (w.heap.size=G):=hG0;have l1:=run_ldSw HX.out;clear hS b1 b2 X1 x2;go_enter Tryz.func40,Tryz.ntmps40;go_wp2_with fail;clear hw1 hwk hs1 hG0 l1;refine HS.out.chk.mono ?_;rintro e w3 ⟨x,rfl,hx,b3⟩;have HB3:=wTr HBK b3;have HX3:=hide (HX.out.below b3);have HZ3:=hide (HZ.out.below b3);have HS3:=hide (HS.out.below b3);clear b3;rcases hx with ⟨hf,rfl⟩ | ⟨hf,rfl⟩;rotate_left
 ·have t6:(stP (.pointer (some ⟨G+1,0,none⟩)) (.agg #[.slice none 0 0,.slice none 0 0])).run Tryz.prog w3 = .ok () (w3.setRow (G+1) (PC pv0)):=run_stP (p':=pv0) HZ3.out;have HX0:Hid (PBox (w3.setRow (G+1) (PC pv0)) (G+1) pv0):=setRow_heap _ _ _ _ _ _ HZ3.out;have HE:Hid (PaA w (w3.setRow (G+1) (PC pv0)) (.returned (.tuple #[PV pv0,.int .i64 1])) s):=⟨pv0,1,rfl,PSrc.zero _,below_setRow HB3.out (by rw [HGs.out];omega),.inr ⟨hf,rfl,rfl⟩⟩;have t7:=run_stP (p':=pv0) HZ3.out;clear hf;go_wp2_with fail;clear t6 t7;refine bodyPost_ret (res2Pn rfl rfl rfl HX0.out) rfl ?_;exact HE.out
 have HFo:=hide hf;have lp:=run_ldP HX3.out.past;clear hf;go_wp2_with fail;clear lp;refine (pastNorm_any s.p _ HS3.out.ok.p).mono ?_;rintro e w8 ⟨q,rfl,S8,n8,b8,C8⟩
 have hz:G+1+1 <= w3.heap.size:=by have:=HZ3.out.lt;omega
 obtain ⟨s1,e1,e2,e3,e4⟩:=past_end (w:=w) (HZ3.out.below b8) S8 (n8.mono hz) (HB3.out.trans (b8.mono HB3.out.size)) (by rw [HGs.out];omega);have HE1:=hide e1;have HE:Hid (PaA w (w8.setRow (G+1) (PC q)) (.returned (.tuple #[PV q,.int .i64 0])) s):=⟨q,0,rfl,e2,e4,.inl ⟨HFo.out,rfl,C8.unique (canon_iff.2 HFo.out.1.2.1) (fun r hr n=>Iff.rfl)⟩⟩;clear S8 n8 b8 C8 e1 e2 e3 e4 hz;go_wp2_with fail;clear s1;refine bodyPost_ret (res2Pn rfl rfl rfl HE1.out) rfl ?_;exact HE.out
end
section
open Go.RowKit
variable {w w' : World} {g : Nat}
structure DigV where
 hvo:Option Addr
 hvn:Nat
 hvc:Nat
 hco:Option Addr
 hcn:Nat
 hcc:Nat
 lvo:Option Addr
 lvn:Nat
 lvc:Nat
 lco:Option Addr
 lcn:Nat
 lcc:Nat
def di0:DigV:=⟨none,0,0,none,0,0,none,0,0,none,0,0⟩
def DiC (m:DigV):Array Value:=#[.slice m.hvo m.hvn m.hvc,.slice m.hco m.hcn m.hcc,.slice m.lvo m.lvn m.lvc,.slice m.lco m.lcn m.lcc]
abbrev DiV (m:DigV):Value:=.agg (DiC m)
theorem DiC_size (m:DigV):(DiC m).size=4:=rfl
theorem DiC_one (m:DigV):∀ v∈(DiC m).toList,v.oneCell'=true:=by
 intro v hv;simp [DiC] at hv;rcases hv with rfl | rfl | rfl | rfl <;> rfl
theorem cells_DiV (m:DigV):(DiV m).cells=DiC m:=by simp [Value.cells]
structure DiAt (w:World) (a:Addr) (m:DigV):Prop where
 c0:w.cell? a=some (.slice m.hvo m.hvn m.hvc)
 c1:w.cell? (a.add 1)=some (.slice m.hco m.hcn m.hcc)
 c2:w.cell? (a.add 2)=some (.slice m.lvo m.lvn m.lvc)
 c3:w.cell? (a.add 3)=some (.slice m.lco m.lcn m.lcc)
theorem DiAt.on {a:Addr} {m:DigV} (S:DiAt w a m) (hb:Below w.heap.size w w'):DiAt w' a m:=by
 have h0:=World.block_lt_of_cell? _ _ S.c0;exact ⟨by rw [hb.cell h0];exact S.c0,by rw [hb.cell (by rw [block_of_add];exact h0)];exact S.c1,by rw [hb.cell (by rw [block_of_add];exact h0)];exact S.c2,by rw [hb.cell (by rw [block_of_add];exact h0)];exact S.c3⟩
def DiBox (w:World) (g:Nat) (m:DigV):Prop:=w.heap[g]? = some (.cells (DiC m) 33 (0,0))
theorem DiBox.lt {m:DigV} (h:DiBox w g m):g < w.heap.size:=(Array.getElem?_eq_some_iff.1 h).1
theorem DiBox.below {m:DigV} (h:DiBox w g m) (hb:Below w.heap.size w w'):DiBox w' g m:=(hb.block g h.lt).trans h
theorem DiBox.c0 {m:DigV} (h:DiBox w g m):w.cell? ⟨g,0,none⟩=some (.slice m.hvo m.hvn m.hvc):=by unfold DiBox at h;simp [World.cell?,h,DiC]
theorem DiBox.c1 {m:DigV} (h:DiBox w g m):w.cell? ⟨g,1,none⟩=some (.slice m.hco m.hcn m.hcc):=by unfold DiBox at h;simp [World.cell?,h,DiC]
theorem DiBox.c2 {m:DigV} (h:DiBox w g m):w.cell? ⟨g,2,none⟩=some (.slice m.lvo m.lvn m.lvc):=by unfold DiBox at h;simp [World.cell?,h,DiC]
theorem DiBox.c3 {m:DigV} (h:DiBox w g m):w.cell? ⟨g,3,none⟩=some (.slice m.lco m.lcn m.lcc):=by unfold DiBox at h;simp [World.cell?,h,DiC]
theorem DiBox_new (w:World) (m:DigV):DiBox (w.alloc (.cells (DiC m) 33)) w.heap.size m:=by unfold DiBox;rw [heap_alloc_new]
def ldDi (v:Value):Sem Value:=Instr.loadAt 33 v
theorem ldDi_eq (v:Value):Instr.loadAt 33 v=ldDi v:=rfl
def stDi (p v:Value):Sem Unit:=Instr.storeAt 33 p v
theorem stDi_eq (p v:Value):Instr.storeAt 33 p v=stDi p v:=rfl
theorem sizeDi:(Tryz.prog.info? 33).map (·.size)=some 4:=by kernel_rfl
theorem DiBox.range {m:DigV} (h:DiBox w g m):w.rangeAt g 0 (DiC m).toList:=by
 intro j v hv;rw [Nat.zero_add];unfold DiBox at h;simp only [Array.getElem?_toList] at hv;simp [World.cell?,h,hv]
theorem run_lvDi {m:DigV} (A:DiBox w g m):(loadVar 33 ⟨g,0,none⟩).run Tryz.prog w = .ok (DiV m) w:=by
 have:=run_loadVar_mid (P:=Tryz.prog) w g 0 33 (DiC m).toList _ A.range Tryz.underlying33 rfl (by rw [sizeDi];rfl);simpa using this
theorem run_ldDi {m:DigV} (A:DiBox w g m):(ldDi (.pointer (some ⟨g,0,none⟩))).run Tryz.prog w = .ok (.agg (DiC m)) w:=by
 unfold ldDi;simp only [Instr.loadAt,Instr.sureAddr,Sem.run_bind,Sem.run_pure,Result.andThen];exact run_lvDi A
theorem run_stDi {m m':DigV} (A:DiBox w g m):(stDi (.pointer (some ⟨g,0,none⟩)) (.agg (DiC m'))).run Tryz.prog w = .ok () (w.setRow g (DiC m')):=by
 unfold stDi;have h:=run_storeCells_from (P:=Tryz.prog) g 33 (DiC m').toList 0 (DiC m) w A (by simp [DiC]) (DiC_one m')
 cases hq:Tryz.prog.info? 33 with
 | none=>have:=sizeDi;simp [hq] at this
 | some x =>
  have hs:x.size=4:=by have:=sizeDi;simpa [hq] using this
  simp only [Instr.storeAt,Instr.sureAddr,Sem.run_bind,Sem.run_pure,Result.andThen,storeVar,sizeOf,typeInfo,cells_DiV,DiC_size];simp at h;simp [h,hq,hs]
theorem DiBox.setRow {m m':DigV} (A:DiBox w g m):DiBox (w.setRow g (DiC m')) g m':=setRow_heap w g _ _ _ _ A
theorem res1Di {m:DigV} {fn:Func} {p:Tmp} (h:fn.results=#[.cell p 33]) {tmps:Array Value} (hp:tmps.getD p undef = .pointer (some ⟨g,0,none⟩)) (A:DiBox w g m) :
  (results fn tmps).run Tryz.prog w = .ok (DiV m) w:=by
 have hl:=run_lvDi A;simp only [results,h];rw [Array.getD_eq_getD_getElem?] at hp;simp [hp,asAddr,hl]
end
section
open Go.RowKit
attribute [local go_sem ↓] ldP_eq stP_eq ldDi_eq stDi_eq
attribute [local go_sem] cells_PV PC_size cells_DiV DiC_size
variable {w w' w2 W W' : World} {g : Nat}

structure Dg where
 h:Pv
 l:Pv
def mkD (d:Dg):DigV:=⟨d.h.vo,d.h.vn,d.h.vc,d.h.co,d.h.cn,d.h.cc,d.l.vo,d.l.vn,d.l.vc,d.l.co,d.l.cn,d.l.cc⟩
def DgOk (w:World) (d:Dg):Prop:=PSrc w d.h/\PSrc w d.l
theorem DgOk.below {d:Dg} (h:DgOk w d) (b:Below w.heap.size w w'):DgOk w' d:=⟨h.1.below b,h.2.below b⟩
theorem DiBox.heard {d:Dg} (h:DiBox w g (mkD d)):PAt w ⟨g,0,none⟩ d.h:=⟨h.c0,by rw [Addr.add_lit];exact h.c1⟩
theorem DiBox.live {d:Dg} (h:DiBox w g (mkD d)):PAt w ⟨g,2,none⟩ d.l:=⟨h.c2,by rw [Addr.add_lit];exact h.c3⟩
def InP (a b:Pst):Prop:=∀ r,r < 16 -> ∀ n,mem (runsAt a r) n -> mem (runsAt b r) n
def FormD (H L:Pst):Prop:=InForm H/\InForm L/\InP L H
def CkD (w w':World) (e:Ending) (P:Prop):Prop:=∃ x,e = .returned (.int .i64 x)/\((x=1/\¬ P)∨(x=0/\P))/\Below w.heap.size w w'
theorem dcheck_any (d:Dg) (w:World) (hS:DgOk w d):Calls Tryz.prog 16 #[DiV (mkD d)] w fun e w'=>CkD w w' e (FormD d.h.P d.l.P):=by
 have HX:=hide (DiBox_new w (mkD d));have HB:=hide (below_new w (.cells (DiC (mkD d)) 33));have HS:=hide (hS.below HB.out);clear hS;obtain ⟨wk,hwk⟩:∃ wk,w.alloc (.cells (DiC (mkD d)) 33)=wk:=⟨_,rfl⟩;obtain ⟨G,hG⟩:∃ G,w.heap.size=G:=⟨_,rfl⟩;rw [hwk] at HX HB HS;rw [hG] at HX;have l1:=run_ldP HX.out.heard;go_enter Tryz.func16,Tryz.ntmps16;go_wp2_with fail;clear hwk hG;refine (isNormP_any d.h _ HS.out.1).mono ?_;rintro e w2 ⟨b,rfl,hb,b2⟩;have HB2:=wTr HB b2;have HX2:=hide (HX.out.below b2);have HS2:=hide (HS.out.below b2);clear b2 l1 HX HB HS
 cases b with
 | false =>
  have HN:Hid (¬ FormD d.h.P d.l.P):=fun h=>by have:=hb.out.2 h.1;cases this
  clear hb;go_wp2_with fail;go_ret;exact ⟨1,rfl,.inl ⟨rfl,HN.out⟩,HB2.out⟩
 | true =>
  have H1:Hid (InForm d.h.P):=hb.out.1 rfl;clear hb;have l2:=run_ldP HX2.out.live;go_wp2_with fail;refine (isNormP_any d.l _ HS2.out.2).mono ?_;rintro e w3 ⟨b,rfl,hb,b3⟩;have HB3:=wTr HB2 b3;have HX3:=hide (HX2.out.below b3);have HS3:=hide (HS2.out.below b3);clear b3 l2 HX2 HB2 HS2
  cases b with
  | false =>
   have HN:Hid (¬ FormD d.h.P d.l.P):=fun h=>by have:=hb.out.2 h.2.1;cases this
   clear hb;go_wp2_with fail;go_ret;exact ⟨1,rfl,.inl ⟨rfl,HN.out⟩,HB3.out⟩
  | true =>
   have H2:Hid (InForm d.l.P):=hb.out.1 rfl;clear hb;have l3:=run_ldP HX3.out.live;have l4:=run_ldP HX3.out.heard;go_wp2_with fail;refine (pastWithin_any d.l d.h _ HS3.out.2 HS3.out.1).mono ?_;rintro e w4 ⟨x,rfl,hx,b4⟩;have HB4:=wTr HB3 b4;have HI:Hid (BIf x (InP d.l.P d.h.P)):=hx;clear hx b4 l3 l4
   cases x with
   | false =>
    have HN:Hid (¬ FormD d.h.P d.l.P):=fun h=>by have:=HI.out.2 h.2.2;cases this
    clear HI;go_wp2_with fail;go_ret;exact ⟨1,rfl,.inl ⟨rfl,HN.out⟩,HB4.out⟩
   | true =>
    have HN:Hid (FormD d.h.P d.l.P):=⟨H1.out,H2.out,HI.out.1 rfl⟩;clear HI;go_wp2_with fail;go_ret;exact ⟨0,rfl,.inr ⟨rfl,HN.out⟩,HB4.out⟩
theorem rinForm14_any (d:Dg) (w:World) (hS:DgOk w d):Calls Tryz.prog 25 #[DiV (mkD d)] w fun e w'=>GivB w w' e (FormD d.h.P d.l.P):=by
 have HX:=hide (DiBox_new w (mkD d));have HB:=hide (below_new w (.cells (DiC (mkD d)) 33));have HS:=hide (hS.below HB.out);clear hS;obtain ⟨wk,hwk⟩:∃ wk,w.alloc (.cells (DiC (mkD d)) 33)=wk:=⟨_,rfl⟩;obtain ⟨G,hG⟩:∃ G,w.heap.size=G:=⟨_,rfl⟩;rw [hwk] at HX HB HS;rw [hG] at HX;have l1:=run_ldP HX.out.heard;go_enter Tryz.func25,Tryz.ntmps25;go_wp2_with fail;clear hwk hG;refine (refIsNorm_any d.h _ HS.out.1).mono ?_;rintro e w2 ⟨b,rfl,hb,b2⟩;have HB2:=wTr HB b2;have HX2:=hide (HX.out.below b2);have HS2:=hide (HS.out.below b2);have HI1:Hid (BIf b (InForm d.h.P)):=hb;clear b2 l1 HX HB HS hb
 cases b with
 | false =>
  have HN:Hid (BIf false (FormD d.h.P d.l.P)):=⟨(fun h=>by cases h),fun h=>HI1.out.2 h.1⟩;clear HI1;go_wp2_with fail;go_ret;exact ⟨false,rfl,HN.out,HB2.out⟩
 | true =>
  have H1:Hid (InForm d.h.P):=HI1.out.1 rfl;clear HI1;have l2:=run_ldP HX2.out.live;go_wp2_with fail;refine (refIsNorm_any d.l _ HS2.out.2).mono ?_;rintro e w3 ⟨b,rfl,hb,b3⟩;have HB3:=wTr HB2 b3;have HX3:=hide (HX2.out.below b3);have HS3:=hide (HS2.out.below b3);have HI2:Hid (BIf b (InForm d.l.P)):=hb;clear b3 l2 HX2 HB2 HS2 hb
  cases b with
  | false =>
   have HN:Hid (BIf false (FormD d.h.P d.l.P)):=⟨(fun h=>by cases h),fun h=>HI2.out.2 h.2.1⟩;clear HI2;go_wp2_with fail;go_ret;exact ⟨false,rfl,HN.out,HB3.out⟩
  | true =>
   have H2:Hid (InForm d.l.P):=HI2.out.1 rfl;clear HI2;have l3:=run_ldP HX3.out.live;have l4:=run_ldP HX3.out.heard;go_wp2_with fail;refine (refWithin_any d.l d.h _ HS3.out.2 HS3.out.1).mono ?_;rintro e w4 ⟨x,rfl,hx,b4⟩;have HB4:=wTr HB3 b4;have HN:Hid (BIf x (FormD d.h.P d.l.P)):=⟨fun h=>⟨H1.out,H2.out,hx.1 h⟩,fun h=>hx.2 h.2.2⟩;clear hx b4 l3 l4;go_wp2_with fail;go_ret;exact ⟨x,rfl,HN.out,HB4.out⟩
theorem requal14_any (a b:Dg) (w:World) (hA:DgOk w a) (hB:DgOk w b):Calls Tryz.prog 12 #[DiV (mkD a),DiV (mkD b)] w fun e w'=>GivB w w' e (a.h.P=b.h.P/\a.l.P=b.l.P):=by
 have b1:=below_new w (.cells (DiC (mkD a)) 33);have b2:=below_new (w.alloc (.cells (DiC (mkD a)) 33)) (.cells (DiC (mkD b)) 33);have p2:=DiBox_new (w.alloc (.cells (DiC (mkD a)) 33)) (mkD b);rw [World.size_alloc] at p2;have HXA:=hide ((DiBox_new w (mkD a)).below b2);have HXB:=hide p2;have HBK:=hide (b1.trans (b2.mono b1.size));have HSA:=hide (hA.below HBK.out);have HSB:=hide (hB.below HBK.out);obtain ⟨wk,hwk⟩:∃ wk,(w.alloc (.cells (DiC (mkD a)) 33)).alloc (.cells (DiC (mkD b)) 33)=wk:=⟨_,rfl⟩;obtain ⟨G,hG⟩:∃ G,w.heap.size=G:=⟨_,rfl⟩;rw [hwk] at HXA HXB HBK HSA HSB;rw [hG] at HXA HXB;clear b1 b2 p2 hA hB;have l1:=run_ldP HXA.out.heard;have l2:=run_ldP HXB.out.heard;go_enter Tryz.func12,Tryz.ntmps12;go_wp2_with fail;clear hwk hG;refine (samePast_any a.h b.h _ HSA.out.1 HSB.out.1).mono ?_;rintro e w2 ⟨x,rfl,hx,b2⟩;have HB2:=wTr HBK b2
 have HXA2:=hide (HXA.out.below b2);have HXB2:=hide (HXB.out.below b2);have HSA2:=hide (HSA.out.below b2);have HSB2:=hide (HSB.out.below b2);have HI:Hid (BIf x (a.h.P=b.h.P)):=hx;clear b2 hx l1 l2 HXA HXB HSA HSB HBK
 cases x with
 | false =>
  have HN:Hid (BIf false (a.h.P=b.h.P/\a.l.P=b.l.P)):=⟨(fun h=>by cases h),fun h=>HI.out.2 h.1⟩;clear HI;go_wp2_with fail;go_ret;exact ⟨false,rfl,HN.out,HB2.out⟩
 | true =>
  have H1:Hid (a.h.P=b.h.P):=HI.out.1 rfl;clear HI;have l3:=run_ldP HXA2.out.live;have l4:=run_ldP HXB2.out.live;go_wp2_with fail;refine (samePast_any a.l b.l _ HSA2.out.2 HSB2.out.2).mono ?_;rintro e w3 ⟨x,rfl,hx,b3⟩;have HB3:=wTr HB2 b3;have HN:Hid (BIf x (a.h.P=b.h.P/\a.l.P=b.l.P)):=⟨fun h=>⟨H1.out,hx.1 h⟩,fun h=>hx.2 h.2⟩;clear hx b3 l3 l4;go_wp2_with fail;go_ret;exact ⟨x,rfl,HN.out,HB3.out⟩
end
section
open Go.RowKit
def dz0:Dg:=⟨pv0,pv0⟩
theorem dz_ok (w:World):DgOk w dz0:=⟨PSrc.zero w,PSrc.zero w⟩
def liveF (f:Fc):List K.En:=f.es.filter (lvB f.p.P f.rs)
theorem live_L (f:Fc):liveL f=liveF f:=by
 unfold liveL liveF;rw [List.filter_filter];congr 1
 funext e
 unfold lvB pkB
 cases inB f.p.P e <;> cases freeB f.rs e <;> rfl
def DoF (f:Fc) (d:Dg):Prop:=HeardOf f d.h.P/\CanonOf (dotsG ((liveF f).map dotOf)) d.l.P
def DoS (s:Fc) (d:Dg):Prop:=d.h.P=s.p.P/\CanonOf (dotsG (s.es.map dotOf)) d.l.P
def EqD (a b:Dg):Prop:=a.h.P=b.h.P/\a.l.P=b.l.P
theorem DoF.one {f:Fc} {d e:Dg} (h:DoF f d) (k:DoF f e):EqD d e:=⟨h.1.one k.1,h.2.unique k.2 fun _ _ _=>Iff.rfl⟩
theorem DoS.one {s:Fc} {d e:Dg} (h:DoS s d) (k:DoS s e):EqD d e:=⟨h.1.trans k.1.symm,h.2.unique k.2 fun _ _ _=>Iff.rfl⟩
def OfR (P:Prop) (D:Dg -> Prop) (d:Dg) (er:Int):Prop:=(¬ P/\er=1/\d=dz0)∨(P/\er=0/\D d)
def OfE (w w':World) (x:Ending) (P:Prop) (D:Dg -> Prop):Prop:=∃ d er,x = .returned (.tuple #[DiV (mkD d),.int .i64 er])/\DgOk w' d/\Below w.heap.size w w'/\OfR P D d er
theorem OfR.one {P:Prop} {D:Dg -> Prop} {d e:Dg} {x y:Int} (hD:∀ a b,D a -> D b -> EqD a b) (h:OfR P D d x) (k:OfR P D e y):x=y/\EqD d e:=by
 rcases h with ⟨h1,rfl,rfl⟩ | ⟨h1,rfl,h2⟩ <;> rcases k with ⟨k1,rfl,rfl⟩ | ⟨k1,rfl,k2⟩
 ·exact ⟨rfl,rfl,rfl⟩
 ·exact absurd k1 h1
 ·exact absurd h1 k1
 ·exact ⟨rfl,hD _ _ h2 k2⟩
theorem live_exf {s:Fc} {q:Pv} (hf:FormS s) (x:ExQ s q):liveF (exf s q)=s.es:=by
 unfold liveF;refine List.filter_eq_self.2 fun e he=>?_
 show lvB q.P s.rs e=true
 unfold lvB;rw [hf.2.2.2 e he,Bool.and_true,Bool.not_eq_true',Bool.eq_false_iff];intro h;exact ((exq_inB x e).1 h).2 ⟨e,he,rfl⟩
theorem heard_exf {s:Fc} {q:Pv} {P:Pst} (hf:FormS s) (x:ExQ s q) (h:HeardOf (exf s q) P):P=s.p.P:=by
 refine pst_ext h.1 hf.1.2.1 fun e=>?_;rw [heard_inB h]
 show (okD (dotOf e)=true/\∃ x∈s.es,dotOf x=dotOf e)∨inB q.P e=true↔inB s.p.P e=true
 rw [exq_inB x];constructor
 ·rintro (⟨-,y,hy,hd⟩ | h)
  ·rw [<- dot_inB hd];exact hf.2.1 y hy
  ·exact h.1
 ·intro h;by_cases k:∃ y∈s.es,dotOf y=dotOf e
  ·exact .inl ⟨inB_okDS h,k⟩
  ·exact .inr ⟨h,k⟩
theorem dof_dos {s:Fc} {q:Pv} {d:Dg} (hf:FormS s) (x:ExQ s q) (h:DoF (exf s q) d):DoS s d:=
 ⟨heard_exf hf x h.1,by have h2:=h.2;rw [live_exf hf x] at h2;exact h2⟩
theorem ps_heard {f:Fc} {P:Pst} {er:Int} (h:PsD f P er):(¬ FormF f/\er=1/\P=pv0.P)∨(FormF f/\er=0/\HeardOf f P):=by
 rcases h with h | ⟨h1,h2,h3,h4⟩
 ·exact .inl h
 ·exact .inr ⟨h1,h2,h3,h4⟩
end
section
open Go.RowKit
theorem DiBox.ne {W:World} {g:Nat} {m:DigV} (A:DiBox W g m) {a:Addr} {v:Value} (hc:W.cell? a=some v) (hv:∀ o n c,v ≠ .slice o n c):a.block≠g:=by
 rintro rfl;obtain ⟨b,o,k⟩:=a;unfold DiBox at A;have h:=World.cell?_spot hc;obtain rfl:k=none:=h;simp only [World.cell?,A] at hc;rcases o with _ | _ | _ | _ | o <;> simp [DiC] at hc
 all_goals exact absurd hc.symm (hv _ _ _)
theorem psrc_offD {W:World} {g:Nat} {m:DigV} {p:Pv} (A:DiBox W g m) (h:PSrc W p) (c:Array Value):PSrc (W.setRow g c) p:=by
 refine ⟨⟨h.vec.1,h.vec.2.1,fun ad e t ht=>?_⟩,⟨h.cloud.len,h.cloud.nil,fun ad e t ht=>?_,h.cloud.big,h.cloud.cap⟩,h.big⟩
 ·have B:=h.vec.2.2 ad e t ht;rw [cell_off c (A.ne B (fun _ _ _ h=>by cases h))];exact B
 ·have B:=h.cloud.cell ad e t ht;have hb:=A.ne B.c0 (fun _ _ _ h=>by cases h);exact ⟨by rw [cell_off c hb];exact B.c0,by rw [cell_off c (by rw [block_add];exact hb)];exact B.c1,by rw [cell_off c (by rw [block_add];exact hb)];exact B.c2⟩
theorem DgOk.offD {W:World} {g:Nat} {m:DigV} {d:Dg} (h:DgOk W d) (A:DiBox W g m) (c:Array Value):DgOk (W.setRow g c) d:=⟨psrc_offD A h.1 c,psrc_offD A h.2 c⟩
def DgS (w w':World) (e:Ending) (D:Dg -> Prop):Prop:=∃ d,e = .returned (DiV (mkD d))/\DgOk w' d/\Below w.heap.size w w'/\D d
def bldDg (a:Array (Nat × Value)):Sem Value:=Instr.build 33 a
theorem bldDg_eq (a:Array (Nat × Value)):Instr.build 33 a=bldDg a:=rfl
theorem run_bldDg0 (w:World):(bldDg #[]).run Tryz.prog w = .ok (.agg (DiC (mkD dz0))) w:=by kernel_rfl
theorem run_bldDg (p q:Pv) (w:World):(bldDg #[(0,.agg (PC p)),(1,.agg (PC q))]).run Tryz.prog w = .ok (.agg (DiC (mkD ⟨p,q⟩))) w:=by kernel_rfl
theorem zero_DiZ:(#[.slice none 0 0,.slice none 0 0,.slice none 0 0,.slice none 0 0]:Array Value)=DiC (mkD dz0):=rfl
theorem res2Di {w:World} {g:Nat} {fn:Func} {p q:Tmp} {m:DigV} {v:Value} (h:fn.results=#[.cell p 33,.tmp q]) {tmps:Array Value} (hp:tmps.getD p undef = .pointer (some ⟨g,0,none⟩)) (hq:tmps.getD q undef=v) (A:DiBox w g m) :
  (results fn tmps).run Tryz.prog w = .ok (.tuple #[DiV m,v]) w:=by
 have hl:=run_lvDi A;simp only [results,h];rw [Array.getD_eq_getD_getElem?] at hp hq;simp [hp,hq,asAddr,hl]
theorem boxFD (w:World) (f:Fc):∃ wk,(w.alloc (.cells (FaC (mkF f)) 29)).alloc (.cells (DiC (mkD dz0)) 33)=wk/\Hid (FaBox wk w.heap.size (mkF f))/\Hid (DiBox wk (w.heap.size+1) (mkD dz0))/\Hid (Below w.heap.size w wk):=by
 have b1:=below_new w (.cells (FaC (mkF f)) 29);have b2:=below_new (w.alloc (.cells (FaC (mkF f)) 29)) (.cells (DiC (mkD dz0)) 33);have X2:=DiBox_new (w.alloc (.cells (FaC (mkF f)) 29)) (mkD dz0);rw [World.size_alloc] at X2;exact ⟨_,rfl,(FaBox_new w (mkF f)).below b2,X2,b1.trans (b2.mono b1.size)⟩
theorem boxSD (w:World) (f:Fc):∃ wk,(w.alloc (.cells (FaC (mkF f)) 31)).alloc (.cells (DiC (mkD dz0)) 33)=wk/\Hid (SwBox wk w.heap.size (mkF f))/\Hid (DiBox wk (w.heap.size+1) (mkD dz0))/\Hid (Below w.heap.size w wk):=by
 have b1:=below_new w (.cells (FaC (mkF f)) 31);have b2:=below_new (w.alloc (.cells (FaC (mkF f)) 31)) (.cells (DiC (mkD dz0)) 33);have X2:=DiBox_new (w.alloc (.cells (FaC (mkF f)) 31)) (mkD dz0);rw [World.size_alloc] at X2;exact ⟨_,rfl,(SwBox_new w (mkF f)).below b2,X2,b1.trans (b2.mono b1.size)⟩
attribute [local go_sem ↓] ldP_eq stP_eq ldFa_eq stFa_eq ldSw_eq stSw_eq ldDi_eq stDi_eq bldDg_eq
attribute [local go_sem] cells_PV PC_size zero_PC cells_FaV FaC_size cells_DiV DiC_size zero_DiZ run_bldDg0 run_bldDg
theorem refOf14_any (f:Fc) (w:World) (hF:FcOk w f) (hFo:FormF f):Calls Tryz.prog 34 #[FaV (mkF f)] w fun e w'=>DgS w w' e (DoF f):=by
 obtain ⟨wk,hwk,HX,HZ,HBK⟩:=boxFD w f;obtain ⟨G,hG0⟩:∃ G,w.heap.size=G:=⟨_,rfl⟩;rw [hG0] at HX HZ;have HGs:Hid (w.heap.size=G):=hG0;have HF:=hide (hF.below HBK.out);have HFo:=hide hFo;clear hF hFo;go_enter Tryz.func34,Tryz.ntmps34;go_upto_region 1 with fail;clear hwk hG0;refine wp_region_held_drew (S:=fun W=>(ldFa (.pointer (some ⟨G,0,none⟩))).run Tryz.prog W = .ok (FaV (mkF f)) W) (by kernel_rfl) (run_ldFa (HX.out.below (below_drew1 wk))) (fun hHeld=>?_);refine wU 0 ?_;refine wU 2 ?_;refine wpAnyH_ready (rs:=[1]) (by kernel_rfl) (by simp) (.cons rfl (fun K hK=>?_) .nil);go_simp;go_wp2_with fail;refine (refHeard_any f _ (HF.out.below (below_drew1 wk)) HFo.out).mono ?_;rintro x w3 ⟨p,rfl,Sp,-,b3,hh⟩;have HB3:=hide ((below_drew1 wk).trans (b3.mono (below_drew1 wk).size));have HSp:=hide Sp;have HH:=hide hh;clear Sp b3 hh;refine hK.out _ _ (run_ldFa (HX.out.below HB3.out)) (fun hHeld=>?_)
 clear hK K;refine wpAnyH_ready (rs:=[3]) (by kernel_rfl) (by simp) (.cons rfl (fun K hK=>?_) .nil);go_simp;go_wp2_with fail;refine (refLive11_any f _ (HF.out.below HB3.out)).mono ?_;rintro x w4 ⟨lo,ln,lc,rfl,SL,b4⟩;have HB4:=wTr HB3 b4;have HSL:=hide SL;have HSp4:=hide (HSp.out.below b4);clear SL b4;refine hK.out _ _ (run_ldFa (HX.out.below HB4.out)) (fun hHeld=>?_);clear hK K;refine wpAnyH_ready (rs:=[4]) (by kernel_rfl) (by simp) (.cons rfl (fun K hK=>?_) .nil);go_simp;go_wp2_with fail;refine (refDots8_any lo ln lc _ ⟨#[]⟩ (-1) _ HSL.out).mono ?_;rintro x w5 ⟨q,rfl,Sq,-,b5,Cq⟩;rw [dsB_all] at Cq;have HB5:=wTr HB4 b5;have A5:=HZ.out.below HB5.out;have st:=run_stDi (m':=mkD ⟨p,q⟩) A5;have HE1:Hid (DiBox (w5.setRow (G+1) (DiC (mkD ⟨p,q⟩))) (G+1) (mkD ⟨p,q⟩)):=A5.setRow;have HXe:Hid (FaBox (w5.setRow (G+1) (DiC (mkD ⟨p,q⟩))) G (mkF f)):=(setRow_other _ _ _ _ (by omega)).trans (HX.out.below HB5.out)
 have HE:Hid (DgS w (w5.setRow (G+1) (DiC (mkD ⟨p,q⟩))) (.returned (DiV (mkD ⟨p,q⟩))) (DoF f)):=⟨⟨p,q⟩,rfl,DgOk.offD (d:=⟨p,q⟩) ⟨HSp4.out.below b5,Sq⟩ A5 _,below_setRow (HBK.out.trans (HB5.out.mono HBK.out.size)) (by rw [HGs.out];omega),HH.out,Cq⟩;clear Sq b5 Cq A5;refine hK.out _ _ (run_ldFa (HX.out.below HB5.out)) (fun hHeld=>?_);clear hK K;refine wU 5 ?_;refine wpAnyH_ready (rs:=[6]) (by kernel_rfl) (by simp) (.cons rfl (fun K hK=>?_) .nil);go_simp;refine hK.out _ _ (run_ldFa HXe.out) (fun hHeld=>?_);clear hK K;clear st;refine wpAnyH_done (by kernel_rfl) ?_ _;clear hHeld;go_wp2_with fail;refine bodyPost_ret (res1Di rfl rfl HE1.out) rfl ?_;exact HE.out
theorem refOfFacts14_any (f:Fc) (w:World) (hF:FcOk w f):Calls Tryz.prog 10 #[FaV (mkF f)] w fun e w'=>OfE w w' e (FormF f) (DoF f):=by
 obtain ⟨wk,hwk,HX,HZ,HBK⟩:=boxFD w f;obtain ⟨G,hG0⟩:∃ G,w.heap.size=G:=⟨_,rfl⟩;rw [hG0] at HX HZ;have HGs:Hid (w.heap.size=G):=hG0;have HF:=hide (hF.below HBK.out);clear hF;have l0:=run_ldFa HX.out;go_enter Tryz.func10,Tryz.ntmps10;go_wp2_with fail;clear hwk hG0 l0;refine (refFacts_any f _ HF.out).mono ?_;rintro e w3 ⟨v,rfl,hv,b3⟩;have HB3:=hide b3;have A3:=HZ.out.below b3;clear b3
 cases v with
 | false =>
  have st:=run_stDi (m':=mkD dz0) A3;have HE1:Hid (DiBox (w3.setRow (G+1) (DiC (mkD dz0))) (G+1) (mkD dz0)):=A3.setRow;have HE:Hid (OfE w (w3.setRow (G+1) (DiC (mkD dz0))) (.returned (.tuple #[DiV (mkD dz0),.int .i64 1])) (FormF f) (DoF f)):=⟨dz0,1,rfl,dz_ok _,below_setRow (HBK.out.trans (HB3.out.mono HBK.out.size)) (by rw [HGs.out];omega),.inl ⟨fun h=>(by have:=hv.2 h;cases this),rfl,rfl⟩⟩;clear hv A3;go_wp2_with fail;clear st;refine bodyPost_ret (res2Di rfl rfl rfl HE1.out) rfl ?_;exact HE.out
 | true =>
  have HFo:=hide (hv.1 rfl);have HZ3:=hide A3;have l0:=run_ldFa (HX.out.below HB3.out);clear hv A3;go_wp2_with fail;clear l0;refine (refOf14_any f _ (HF.out.below HB3.out) HFo.out).mono ?_;rintro e w4 ⟨d,rfl,Sd,b4,hD⟩;have HB4:=wTr HB3 b4;have A4:=HZ3.out.below b4;have st:=run_stDi (m':=mkD d) A4;have HE1:Hid (DiBox (w4.setRow (G+1) (DiC (mkD d))) (G+1) (mkD d)):=A4.setRow;have HE:Hid (OfE w (w4.setRow (G+1) (DiC (mkD d))) (.returned (.tuple #[DiV (mkD d),.int .i64 0])) (FormF f) (DoF f)):=⟨d,0,rfl,Sd.offD A4 _,below_setRow (HBK.out.trans (HB4.out.mono HBK.out.size)) (by rw [HGs.out];omega),.inr ⟨HFo.out,rfl,hD⟩⟩;clear Sd b4 hD A4;go_wp2_with fail;clear st;refine bodyPost_ret (res2Di rfl rfl rfl HE1.out) rfl ?_;exact HE.out
theorem refOfSwot14_any (s:Fc) (w:World) (hF:FcOk w s):Calls Tryz.prog 13 #[FaV (mkF s)] w fun e w'=>OfE w w' e (FormS s) (DoS s):=by
 obtain ⟨wk,hwk,HX,HZ,HBK⟩:=boxSD w s;obtain ⟨G,hG0⟩:∃ G,w.heap.size=G:=⟨_,rfl⟩;rw [hG0] at HX HZ;have HGs:Hid (w.heap.size=G):=hG0;have HF:=hide (hF.below HBK.out);clear hF;have l0:=run_ldSw HX.out;go_enter Tryz.func13,Tryz.ntmps13;go_wp2_with fail;clear hwk hG0 l0;refine (refInForm_any s _ HF.out).mono ?_;rintro e w3 ⟨v,rfl,hv,b3⟩;have HB3:=hide b3;have A3:=HZ.out.below b3;clear b3
 cases v with
 | false =>
  have st:=run_stDi (m':=mkD dz0) A3;have HE1:Hid (DiBox (w3.setRow (G+1) (DiC (mkD dz0))) (G+1) (mkD dz0)):=A3.setRow;have HE:Hid (OfE w (w3.setRow (G+1) (DiC (mkD dz0))) (.returned (.tuple #[DiV (mkD dz0),.int .i64 1])) (FormS s) (DoS s)):=⟨dz0,1,rfl,dz_ok _,below_setRow (HBK.out.trans (HB3.out.mono HBK.out.size)) (by rw [HGs.out];omega),.inl ⟨fun h=>(by have:=hv.2 h;cases this),rfl,rfl⟩⟩;clear hv A3;go_wp2_with fail;clear st;refine bodyPost_ret (res2Di rfl rfl rfl HE1.out) rfl ?_;exact HE.out
 | true =>
  have HFo:=hide (hv.1 rfl);have HZ3:=hide A3;have l0:=run_ldSw (HX.out.below HB3.out);clear hv A3;go_wp2_with fail;clear l0;refine (refExpand_any s _ (HF.out.below HB3.out)).mono ?_;rintro e w4 ⟨q,rfl,Fq,b4,xq⟩;have Fx:FcOk w4 (exf s q):=Fq;have xx:ExQ s q:=xq;have HFx:=hide Fx;have HXq:=hide xx;have HB4:=wTr HB3 b4;have HZ4:=hide (HZ3.out.below b4);clear Fq b4 xq Fx xx;go_wp2_with fail;refine (refOf14_any (exf s q) _ HFx.out (exf_form HFo.out HXq.out)).mono ?_;rintro e w5 ⟨d,rfl,Sd,b5,hD⟩;have HB5:=wTr HB4 b5;have A5:=HZ4.out.below b5;have st:=run_stDi (m':=mkD d) A5;have HE1:Hid (DiBox (w5.setRow (G+1) (DiC (mkD d))) (G+1) (mkD d)):=A5.setRow;have HE:Hid (OfE w (w5.setRow (G+1) (DiC (mkD d))) (.returned (.tuple #[DiV (mkD d),.int .i64 0])) (FormS s) (DoS s)):=⟨d,0,rfl,Sd.offD A5 _,below_setRow (HBK.out.trans (HB5.out.mono HBK.out.size)) (by rw [HGs.out];omega),.inr ⟨HFo.out,rfl,dof_dos HFo.out HXq.out hD⟩⟩
  clear Sd b5 hD A5;go_wp2_with fail;clear st;refine bodyPost_ret (res2Di rfl rfl rfl HE1.out) rfl ?_;exact HE.out
theorem ofFacts_any (f:Fc) (w:World) (hS:SwU w f):Calls Tryz.prog 11 #[FaV (mkF f)] w fun e w'=>OfE w w' e (FormF f) (DoF f):=by
 obtain ⟨wk,hwk,HX,HZ,HBK⟩:=boxFD w f;obtain ⟨G,hG0⟩:∃ G,w.heap.size=G:=⟨_,rfl⟩;rw [hG0] at HX HZ;have HGs:Hid (w.heap.size=G):=hG0;have HU:=hide (hS.below HBK.out);clear hS;have l0:=run_ldFa HX.out;go_enter Tryz.func11,Tryz.ntmps11;go_wp2_with fail;clear hwk hG0 l0;refine (tPast_any f _ HU.out.ok).mono ?_;rintro e v3 ⟨p,er,rfl,Sp,-,b3,hp⟩;obtain ⟨g4,hg4⟩:∃ g,v3.heap.size=g:=⟨_,rfl⟩;obtain ⟨w3,hst,X3,B3,-⟩:=madeP v3 p g4 hg4;have b33:=b3.trans (B3.mono b3.size);have HB3:=hide b33;have HX4:=hide X3;have HSp:=hide (Sp.below B3);have HP:=hide (ps_heard hp);have A3:=HZ.out.below b33;clear Sp b3 hp X3 B3 b33;rcases HP.out with ⟨h1,rfl,-⟩ | ⟨h1,rfl,h2⟩
 ·have st:=run_stDi (m':=mkD dz0) A3;have HE1:Hid (DiBox (w3.setRow (G+1) (DiC (mkD dz0))) (G+1) (mkD dz0)):=A3.setRow;have HE:Hid (OfE w (w3.setRow (G+1) (DiC (mkD dz0))) (.returned (.tuple #[DiV (mkD dz0),.int .i64 1])) (FormF f) (DoF f)):=⟨dz0,1,rfl,dz_ok _,below_setRow (HBK.out.trans (HB3.out.mono HBK.out.size)) (by rw [HGs.out];omega),.inl ⟨h1,rfl,rfl⟩⟩;clear h1 A3 HP;go_wp2_with fail;clear st hst hg4;refine bodyPost_ret (res2Di rfl rfl rfl HE1.out) rfl ?_;exact HE.out
 ·have HFo:=hide h1;have HH:=hide h2;have HZ3:=hide A3;have l0:=run_ldFa (HX.out.below HB3.out);clear h1 h2 A3 HP;go_wp2_with fail;clear l0 hst hg4;refine (tLive_any f _ (HU.out.ok.below HB3.out) HU.out.wt HU.out.nm).mono ?_;rintro e w4 hL;obtain ⟨lo,ln,lc,rfl,SL,b4,-⟩:K.GivesEE w3 w4 e (liveF f) 0:=hL.elim (fun h=>by have:=h.2;rwa [live_L] at this) fun h=>absurd HFo.out h.1;have HB4:=wTr HB3 b4;have HSL:=hide SL;have HX44:=hide (HX4.out.below b4);have HSp4:=hide (HSp.out.below b4);have HZ4:=hide (HZ3.out.below b4);clear hL SL b4;go_wp2_with fail;refine (dots_any lo ln lc _ _ HSL.out).mono ?_;rintro e v5 ⟨b5,hd⟩;obtain ⟨q,rfl,Sq,-,Cq⟩:∃ q:Pv,e = .returned (.tuple #[PV q,.int .i64 0])/\PSrc v5 q/\PNew w4.heap.size q/\CanonOf (dotsG ((liveF f).map dotOf)) q.P:=hd.elim (fun h=>h.2) fun h=>absurd (by unfold liveF;exact chk_filter ((chk_okS HU.out.ok.es.1).2 HFo.out.1) _) h.1
  obtain ⟨g6,hg6⟩:∃ g,v5.heap.size=g:=⟨_,rfl⟩;obtain ⟨w5,hst,X5,B5,-⟩:=madeP v5 q g6 hg6;have b55:=b5.trans (B5.mono b5.size);have HB5:=wTr HB4 b55;have A5:=HZ4.out.below b55;have st:=run_stDi (m':=mkD ⟨p,q⟩) A5
  have lp:=run_ldP (HX44.out.below b55).at
  have lq:=run_ldP X5.at
  have HE1:Hid (DiBox (w5.setRow (G+1) (DiC (mkD ⟨p,q⟩))) (G+1) (mkD ⟨p,q⟩)):=A5.setRow;have HE:Hid (OfE w (w5.setRow (G+1) (DiC (mkD ⟨p,q⟩))) (.returned (.tuple #[DiV (mkD ⟨p,q⟩),.int .i64 0])) (FormF f) (DoF f)):=⟨⟨p,q⟩,0,rfl,DgOk.offD (d:=⟨p,q⟩) ⟨HSp4.out.below b55,Sq.below B5⟩ A5 _,below_setRow (HBK.out.trans (HB5.out.mono HBK.out.size)) (by rw [HGs.out];omega),.inr ⟨HFo.out,rfl,HH.out,Cq⟩⟩;clear b5 hd Sq Cq X5 B5 b55 A5;go_wp2_with fail;clear st hst hg6 lp lq;refine bodyPost_ret (res2Di rfl rfl rfl HE1.out) rfl ?_;exact HE.out
theorem ofSwot_any (s:Fc) (w:World) (hS:SwU w s):Calls Tryz.prog 15 #[FaV (mkF s)] w fun e w'=>OfE w w' e (FormS s) (DoS s):=by
 obtain ⟨wk,hwk,HX,HZ,HBK⟩:=boxSD w s;obtain ⟨G,hG0⟩:∃ G,w.heap.size=G:=⟨_,rfl⟩;rw [hG0] at HX HZ;have HGs:Hid (w.heap.size=G):=hG0;have HU:=hide (hS.below HBK.out);clear hS;have l0:=run_ldSw HX.out;go_enter Tryz.func15,Tryz.ntmps15;go_wp2_with fail;clear hwk hG0 l0;refine (swPast_any s _ HU.out).mono ?_;rintro e v3 ⟨p,er,rfl,Sp,b3,hp⟩;obtain ⟨g4,hg4⟩:∃ g,v3.heap.size=g:=⟨_,rfl⟩;obtain ⟨w3,hst,X3,B3,-⟩:=madeP v3 p g4 hg4;have b33:=b3.trans (B3.mono b3.size);have HB3:=hide b33;have HX4:=hide X3;have HSp:=hide (Sp.below B3);have HP:=hide hp;have A3:=HZ.out.below b33;clear Sp b3 hp X3 B3 b33;rcases HP.out with ⟨h1,rfl,h2⟩ | ⟨h1,rfl,-⟩;rotate_left
 ·have st:=run_stDi (m':=mkD dz0) A3;have HE1:Hid (DiBox (w3.setRow (G+1) (DiC (mkD dz0))) (G+1) (mkD dz0)):=A3.setRow;have HE:Hid (OfE w (w3.setRow (G+1) (DiC (mkD dz0))) (.returned (.tuple #[DiV (mkD dz0),.int .i64 1])) (FormS s) (DoS s)):=⟨dz0,1,rfl,dz_ok _,below_setRow (HBK.out.trans (HB3.out.mono HBK.out.size)) (by rw [HGs.out];omega),.inl ⟨h1,rfl,rfl⟩⟩;clear h1 A3 HP;go_wp2_with fail;clear st hst hg4;refine bodyPost_ret (res2Di rfl rfl rfl HE1.out) rfl ?_;exact HE.out
 ·have HFo:=hide h1;have HH:=hide h2;have HZ3:=hide A3;have c0:=(HX.out.below HB3.out).cs.1;clear h1 h2 A3 HP;go_wp2_with fail;clear c0 hst hg4;refine (dots_any s.ao s.an s.ac s.es _ (HU.out.ok.es.below HB3.out)).mono ?_;rintro e v5 ⟨b5,hd⟩;obtain ⟨q,rfl,Sq,-,Cq⟩:∃ q:Pv,e = .returned (.tuple #[PV q,.int .i64 0])/\PSrc v5 q/\PNew w3.heap.size q/\CanonOf (dotsG (s.es.map dotOf)) q.P:=hd.elim (fun h=>h.2) fun h=>absurd ((chk_okS HU.out.ok.es.1).2 HFo.out.1.1) h.1;obtain ⟨g6,hg6⟩:∃ g,v5.heap.size=g:=⟨_,rfl⟩;obtain ⟨w5,hst,X5,B5,-⟩:=madeP v5 q g6 hg6;have b55:=b5.trans (B5.mono b5.size);have HB5:=wTr HB3 b55;have A5:=HZ3.out.below b55;have st:=run_stDi (m':=mkD ⟨p,q⟩) A5
  have lp:=run_ldP (HX4.out.below b55).at
  have lq:=run_ldP X5.at
  have HE1:Hid (DiBox (w5.setRow (G+1) (DiC (mkD ⟨p,q⟩))) (G+1) (mkD ⟨p,q⟩)):=A5.setRow;have HE:Hid (OfE w (w5.setRow (G+1) (DiC (mkD ⟨p,q⟩))) (.returned (.tuple #[DiV (mkD ⟨p,q⟩),.int .i64 0])) (FormS s) (DoS s)):=⟨⟨p,q⟩,0,rfl,DgOk.offD (d:=⟨p,q⟩) ⟨HSp.out.below b55,Sq.below B5⟩ A5 _,below_setRow (HBK.out.trans (HB5.out.mono HBK.out.size)) (by rw [HGs.out];omega),.inr ⟨HFo.out,rfl,HH.out,Cq⟩⟩;clear b5 hd Sq Cq X5 B5 b55 A5;go_wp2_with fail;clear st hst hg6 lp lq;refine bodyPost_ret (res2Di rfl rfl rfl HE1.out) rfl ?_;exact HE.out
theorem rcheck14_any (d:Dg) (w:World) (hS:DgOk w d):Calls Tryz.prog 14 #[DiV (mkD d)] w fun e w'=>CkD w w' e (FormD d.h.P d.l.P):=by
 have b1:=below_new w (.cells (DiC (mkD d)) 33);have X1:=DiBox_new w (mkD d);obtain ⟨wk,hwk⟩:∃ w1,w.alloc (.cells (DiC (mkD d)) 33)=w1:=⟨_,rfl⟩;rw [hwk] at b1 X1;obtain ⟨G,hG0⟩:∃ G,w.heap.size=G:=⟨_,rfl⟩;rw [hG0] at X1;have HB:=hide b1;have HS:=hide (hS.below b1);have l0:=run_ldDi X1;clear hS b1 X1;go_enter Tryz.func14,Tryz.ntmps14;go_wp2_with fail;clear hwk hG0 l0;refine (rinForm14_any d _ HS.out).mono ?_;rintro e w3 ⟨v,rfl,hv,b3⟩;have HB3:=wTr HB b3;clear b3
 cases v with
 | true =>
  have HE:Hid (CkD w w3 (.returned (.int .i64 0)) (FormD d.h.P d.l.P)):=⟨0,rfl,.inr ⟨rfl,hv.1 rfl⟩,HB3.out⟩;clear hv;go_wp2_with fail;go_ret;exact HE.out
 | false =>
  have HE:Hid (CkD w w3 (.returned (.int .i64 1)) (FormD d.h.P d.l.P)):=⟨1,rfl,.inl ⟨rfl,fun h=>by have:=hv.2 h;cases this⟩,HB3.out⟩;clear hv;go_wp2_with fail;go_ret;exact HE.out
end
section
open Go.RowKit
def dk1:K.En:=⟨0,1,⟨#[65]⟩,5⟩
def dk2:K.En:=⟨0,2,⟨#[65]⟩,6⟩
def dkP:Pst:=⟨[1,1],[]⟩
def dkH:Pst:=⟨[2,1],[]⟩
def dkL:Pst:=⟨[],[⟨0,2,2⟩]⟩
def dkC:Array Value:=#[.int .i64 0,.int .i64 1,.string ⟨#[65]⟩,.int .i64 5,.int .i64 0,.int .i64 2,.string ⟨#[65]⟩,.int .i64 6]
def bsE2 (a:Array (Nat × Value)):Sem Value:=Instr.buildSlice 22 2 a
theorem bsE2_eq (a:Array (Nat × Value)):Instr.buildSlice 22 2 a=bsE2 a:=rfl
theorem run_bsE2 (w:World):(bsE2 #[(0,.agg #[.int .i64 0,.int .i64 1,.string ⟨#[65]⟩,.int .i64 5]),(1,.agg #[.int .i64 0,.int .i64 2,.string ⟨#[65]⟩,.int .i64 6])]).run Tryz.prog w = .ok (.slice (some ⟨w.heap.size,0,none⟩) 2 2) (w.alloc (.cells dkC 57)):=by kernel_rfl
theorem run_bldF01 (a v:Option Addr) (n c m d:Nat) (w:World):(bldF #[(0,.slice a n c),(1,.agg #[.slice v m d,.slice none 0 0])]).run Tryz.prog w = .ok (.agg #[.slice a n c,.slice v m d,.slice none 0 0,.slice none 0 0]) w:=by kernel_rfl
theorem dkC_src (w:World) (g:Nat) (hg:w.heap.size=g):K.ESrc (w.alloc (.cells dkC 57)) (some ⟨g,0,none⟩) 2 2 [dk1,dk2]:=by
 subst hg;refine ⟨rfl,(fun h=>by cases h),fun ad h t ht=>?_,?_,(show (2:Nat) <= 3518437208883 by decide)⟩
 ·obtain rfl:=Option.some.inj h;have h1:=heap_alloc_new w (.cells dkC 57);have ht2:t < 2:=ht;generalize w.alloc (.cells dkC 57)=W at h1 ⊢;generalize w.heap.size=g at h1 ⊢;clear h ht
  obtain rfl | rfl:t=0∨t=1:=by omega
  ·refine ⟨?_,?_,?_,?_⟩ <;> simp [Addr.add,World.cell?,h1,dkC,dk1]
  ·refine ⟨?_,?_,?_,?_⟩ <;> simp [Addr.add,World.cell?,h1,dkC,dk2]
 ·intro e he;rcases List.mem_cons.1 he with rfl | he
  ·exact (show (1:Nat) <= maxLen by decide)
  ·obtain rfl:=List.mem_singleton.1 he;exact (show (1:Nat) <= maxLen by decide)
theorem madeFx (w:World) (m:Fc) (g:Nat) (hg:w.heap.size=g):∃ w':World,(stFa (.pointer (some ⟨g,0,none⟩)) (.agg (FaC (mkF m)))).run Tryz.prog (w.alloc (.cells (FaC (mkF fz0)) 29)) = .ok () w'/\FaBox w' g (mkF m)/\Below w.heap.size w w'/\w'.heap.size=w.heap.size+1:=by
 subst hg;exact ⟨_,run_stFa (FaBox_new w _),(FaBox_new w _).setRow,below_setRow (below_new w _) (Nat.le_refl _),by simp [World.setRow]⟩
theorem madeDx14 (w:World) (m:Dg) (g:Nat) (hg:w.heap.size=g):∃ w':World,(stDi (.pointer (some ⟨g,0,none⟩)) (.agg (DiC (mkD m)))).run Tryz.prog (w.alloc (.cells (FaC (mkF fz0)) 33)) = .ok () w'/\DiBox w' g (mkD m)/\Below w.heap.size w w'/\w'.heap.size=w.heap.size+1:=by
 subst hg;have A:DiBox (w.alloc (.cells (FaC (mkF fz0)) 33)) w.heap.size (mkD dz0):=DiBox_new w (mkD dz0);exact ⟨_,run_stDi A,A.setRow,below_setRow (below_new w _) (Nat.le_refl _),by simp [World.setRow]⟩
theorem dk_heard {f:Fc} (h1:f.es=[dk1,dk2]) (h2:f.p.P=dkP):HeardOf f dkH:=⟨⟨by decide,trivial⟩,fun r hr n=>by
 rw [h1,h2]
 match r,hr with
 | 0,_ =>
  show mem [⟨1,2⟩] n↔mem [⟨1,1⟩,⟨2,2⟩] n∨mem [⟨1,1⟩] n
  unfold mem;simp;omega
 | 1,_ =>
  show mem [⟨1,1⟩] n↔mem [] n∨mem [⟨1,1⟩] n
  simp [mem]
 | 2,_ | 3,_ | 4,_ | 5,_ | 6,_ | 7,_ | 8,_ | 9,_ | 10,_ | 11,_ | 12,_ | 13,_ | 14,_ | 15,_ =>
  show mem [] n↔mem [] n∨mem [] n
  simp
 | n+16,h=>exact absurd h (by omega)⟩
theorem dk_lform:InForm dkL:=⟨by decide,⟨⟨by decide,by decide,by decide,by decide,by decide,by decide⟩,trivial⟩⟩
theorem dk_lruns:∀ r,r < 16 -> runsAt dkL r=dotsG ([dk2].map dotOf) r:=fun r hr=>match r,hr with
 | 0,_=>rfl | 1,_=>rfl | 2,_=>rfl | 3,_=>rfl | 4,_=>rfl | 5,_=>rfl | 6,_=>rfl | 7,_=>rfl | 8,_=>rfl | 9,_=>rfl | 10,_=>rfl | 11,_=>rfl | 12,_=>rfl | 13,_=>rfl | 14,_=>rfl | 15,_=>rfl
 | n+16,h=>absurd h (by omega)
theorem dk_live {f:Fc} (h1:f.es=[dk1,dk2]) (h2:f.p.P=dkP) (h3:f.rs=[]):CanonOf (dotsG ((liveF f).map dotOf)) dkL:=by
 have e:liveF f=[dk2]:=by
  unfold liveF;rw [h1,h2,h3,List.filter_cons_of_neg (by decide +kernel),List.filter_cons_of_pos (by decide +kernel)];rfl
 rw [e];obtain ⟨N,hN,hp⟩:=(canon_iff.2 dk_lform:CanonOf (runsAt dkL) dkL);exact ⟨N,fun r hr=>by rw [<- dk_lruns r hr];exact hN r hr,hp⟩
theorem dk_form {f:Fc} (h1:f.es=[dk1,dk2]) (h2:f.p.P=dkP) (h3:f.rs=[]) (h4:f.an=2) (h5:f.rn=0):FormF f:=
 ⟨by rw [h1,h4];decide +kernel,by rw [h2];exact ⟨by decide,trivial⟩,by rw [h3,h5];intro j hj;omega⟩
attribute [local go_sem ↓] ldP_eq stP_eq ldFa_eq stFa_eq ldDi_eq stDi_eq bldF_eq bsE2_eq bldE_eq bldP_eq bldD_eq
attribute [local go_sem] cells_PV PC_size cells_FaV FaC_size zero_FaZ cells_DiV DiC_size run_bldF01 run_bsE2 run_bldE run_bldD run_bldP1
theorem known14_any (w:World):Calls Tryz.prog 9 #[] w fun e w'=>e = .returned (.bool true)/\Below w.heap.size w w':=by
 obtain ⟨g4,hg4⟩:∃ g,w.heap.size=g:=⟨_,rfl⟩;have lb:=run_bsE2 w;have S4:=dkC_src w g4 hg4;have b4:=below_new w (.cells dkC 57)
 have z4:(w.alloc (.cells dkC 57)).heap.size=g4+1:=by simp [hg4]
 obtain ⟨w4,hw4⟩:∃ w4,w.alloc (.cells dkC 57)=w4:=⟨_,rfl⟩;rw [hw4] at lb S4 b4 z4;rw [hg4] at lb;have V5:=vsrc_lit w4 3 #[.int .i64 1,.int .i64 1] [1,1] rfl (g4+1) 2 z4 rfl;have b5:=below_new w4 (.cells #[.int .i64 1,.int .i64 1] 3)
 have z5:(w4.alloc (.cells #[.int .i64 1,.int .i64 1] 3)).heap.size=g4+2:=by simp [z4]
 obtain ⟨w5,hw5⟩:∃ w5,w4.alloc (.cells #[.int .i64 1,.int .i64 1] 3)=w5:=⟨_,rfl⟩;rw [hw5] at V5 b5 z5;have F5:FcOk w5 ⟨some ⟨g4,0,none⟩,2,2,[dk1,dk2],⟨some ⟨g4+1,0,none⟩,2,2,none,0,0,dkP⟩,none,0,0,[]⟩:=⟨S4.below b5,⟨V5,SSrc.empty _,(show (2:Nat) <= 17592186044415 by decide)⟩,RcS.empty _⟩;obtain ⟨w6,hst,X6,B6,-⟩:=madeFx w5 ⟨some ⟨g4,0,none⟩,2,2,[dk1,dk2],⟨some ⟨g4+1,0,none⟩,2,2,none,0,0,dkP⟩,none,0,0,[]⟩ (g4+2) z5;obtain ⟨f,hf,h1,h2,h3,h4,h5,h6⟩:∃ f:Fc,f=⟨some ⟨g4,0,none⟩,2,2,[dk1,dk2],⟨some ⟨g4+1,0,none⟩,2,2,none,0,0,dkP⟩,none,0,0,[]⟩/\f.es=[dk1,dk2]/\f.p.P=dkP/\f.rs=[]/\f.an=2/\f.rn=0/\f.rc=0:=⟨_,rfl,rfl,rfl,rfl,rfl,rfl,rfl⟩;have hst2:(stFa (.pointer (some ⟨g4+2,0,none⟩)) (.agg #[.slice (some ⟨g4,0,none⟩) 2 2,.slice (some ⟨g4+1,0,none⟩) 2 2,.slice none 0 0,.slice none 0 0])).run Tryz.prog (w5.alloc (.cells (FaC (mkF fz0)) 29)) = .ok () w6:=hst
 have lf:(ldFa (.pointer (some ⟨g4+2,0,none⟩))).run Tryz.prog w6 = .ok (FaV (mkF f)) w6:=by rw [hf];exact run_ldFa X6
 have HB6:=hide ((b4.trans (b5.mono b4.size)).trans (B6.mono (Nat.le_trans b4.size b5.size)));have HU:Hid (SwB 1 w6 f):=⟨by rw [hf];exact F5.below B6,⟨by omega,fun _=>h6⟩,by omega,by omega,by rw [h3];intro r hr;cases hr⟩;have HP:Hid (FormF f/\HeardOf f dkH/\CanonOf (dotsG ((liveF f).map dotOf)) dkL):=⟨dk_form h1 h2 h3 h4 h5,dk_heard h1 h2,dk_live h1 h2 h3⟩;clear S4 b4 V5 b5 F5 X6 B6 hst hf h1 h2 h3 h4 h5 h6;go_enter Tryz.func9,Tryz.ntmps9;go_wp2_with fail;clear lb hw4 hw5 z4 z5 hst2 lf hg4;refine (ofFacts_any f _ (HU.out.u (by decide))).mono ?_;rintro e v7 ⟨d,er,rfl,Sd,b7,hd⟩
 obtain ⟨rfl,hD⟩:er=0/\DoF f d:=by
  rcases hd with ⟨h,-⟩ | ⟨-,h,k⟩
  ·exact absurd HP.out.1 h
  ·exact ⟨h,k⟩
 have eh:d.h.P=dkH:=hD.1.one HP.out.2.1;have el:d.l.P=dkL:=hD.2.unique HP.out.2.2 fun _ _ _=>Iff.rfl;obtain ⟨g8,hg8⟩:∃ g,v7.heap.size=g:=⟨_,rfl⟩;obtain ⟨w8,hst,X8,B8,-⟩:=madeDx14 v7 d g8 hg8;have HE:=hide (HB6.out.trans ((b7.trans (B8.mono b7.size)).mono HB6.out.size));have Sd8:=Sd.below B8
 have hvn:d.h.vn=2:=by rw [<- Sd8.1.vec.1,eh];rfl
 have hcn:d.l.cn=1:=by rw [<- Sd8.2.cloud.len,el];rfl
 obtain ⟨av,hav⟩:∃ a,d.h.vo=some a:=by
  cases h:d.h.vo with
  | none=>have:=Sd8.1.vec.2.1 h;omega
  | some a=>exact ⟨a,rfl⟩
 have hv0:=Sd8.1.vec.2.2 av hav 0 (by omega)
 obtain ⟨b1,o1,rfl⟩:∃ b1 o1,av=⟨b1,o1,none⟩:=by
  have h1:=World.cell?_spot hv0;obtain ⟨b,o,sp⟩:=av;obtain rfl:sp=none:=h1;exact ⟨b,o,rfl⟩
 obtain ⟨ac,hac,hc0⟩:=Sd8.2.cloud.at 0 (by omega)
 obtain ⟨b2,o2,rfl⟩:∃ b2 o2,ac=⟨b2,o2,none⟩:=by
  have h:=Sd8.2.cloud;rw [hac] at h;exact h.spot (by omega)
 have hl0:=hc0.c1;rw [el] at hl0
 have hl:w8.cell? ⟨b2,o2+1,none⟩=some (.int .i64 2):=by
  rw [Addr.add_lit,Addr.add_lit] at hl0;have h2:w8.cell? ⟨b2,o2+0 * 3+1,none⟩=some (.int .i64 2):=hl0;simpa using h2
 rw [eh] at hv0;have c0:=X8.c0;have c3:w8.cell? ⟨g8,2+1,none⟩=some (.slice d.l.co d.l.cn d.l.cc):=X8.c3
 have c0':w8.cell? ⟨g8,0,none⟩=some (.slice (some ⟨b1,o1,none⟩) 2 d.h.vc):=by rw [<- hav,<- hvn];exact c0
 rw [hac,hcn] at c3
 have hv:w8.cell? ⟨b1,o1,none⟩=some (.int .i64 2):=by
  have h2:w8.cell? ⟨b1,o1+0,none⟩=some (.int .i64 2):=hv0;simpa using h2
 clear hvn hcn hav hac hv0 hc0 hl0 Sd b7 hd hD eh el X8 B8 Sd8 c0;go_wp2_with fail;go_ret;exact ⟨rfl,HE.out⟩
end
section
open Go.ChangeShapes Go.WideShapes Go.ChangeAt Go.RowKit Go.Joins

theorem own:ownKnob Tryz.prog.godebug=none:=by kernel_rfl
theorem laidOut:laidOutB Tryz.prog=true:=by kernel_rfl
theorem cellsS:Tryz.prog.cellsOf 65=3:=by kernel_rfl
theorem cellsI:Tryz.prog.cellsOf 3=1:=by kernel_rfl
theorem cellsP:Tryz.prog.cellsOf 26=2:=by kernel_rfl
theorem cellsV:Tryz.prog.cellsOf 23=1:=by kernel_rfl
theorem cellsC:Tryz.prog.cellsOf 24=1:=by kernel_rfl
theorem bulk_pos {H:Type} (d:DataW H):1 <= Rows.uptoBulk d:=by
 cases d with
 | lit l=>cases l <;> simp only [Rows.uptoBulk] <;> omega
 | _=>simp only [Rows.uptoBulk] <;> omega
theorem bulk_len {H:Type}:∀ (l:List (DataW H)),l.length <= Rows.uptoBulkAll l
 | []=>by simp
 | d :: l=>by have:=bulk_len l;have:=bulk_pos d;simp only [Rows.uptoBulkAll,List.length_cons];omega
theorem list2 {α : Type} {l:List α} (h:l.length=2):∃ a b,l=[a,b]:=by
 match l,h with
 | [a,b],_=>exact ⟨a,b,rfl⟩
theorem list3 {α : Type} {l:List α} (h:l.length=3):∃ a b c,l=[a,b,c]:=by
 match l,h with
 | [a,b,c],_=>exact ⟨a,b,c,rfl⟩
theorem open_span {H:Type} {enc:TypeId × Value -> H} {w:World} {base:Nat} {spare:Nat -> Bool} {held:Bool} {fuel:Nat} {cs:List Value} {x:DataW H × List MemPlace}
  (h:DataW.trod enc Tryz.prog w base spare held fuel 65 cs=some x):∃ e:Sn,cs=(SC e).toList:=by
 obtain ⟨xs,m,_,hx,hcl,hxl,hf⟩:=DataW.trod_struct Tryz.underlying65 h;obtain ⟨v0,v1,v2,rfl⟩:=list3 (hcl.trans cellsS);obtain ⟨y0,y1,y2,rfl⟩:=list3 hxl;have t0:=hf 0 _ rfl;have t1:=hf 1 _ rfl;have t2:=hf 2 _ rfl;simp [cellsI] at t0 t1 t2;obtain ⟨r,e0,-,_⟩:=DataW.trod_int Tryz.underlying3 t0;obtain ⟨n,e1,-,_⟩:=DataW.trod_int Tryz.underlying3 t1;obtain ⟨m',e2,-,_⟩:=DataW.trod_int Tryz.underlying3 t2;simp only [List.cons.injEq,and_true] at e0 e1 e2;subst e0 e1 e2;exact ⟨⟨r,n,m'⟩,rfl⟩
theorem viewI {H:Type} {enc:TypeId × Value -> H} {W:World} {fuel:Nat} {v:Value} {x:DataW H × List MemPlace}
  (h:DataW.trod enc Tryz.prog W 0 (fun _=>true) true fuel 23 [v]=some x) (hw:Rows.uptoBulk x.1 <= 1048576):∃ (ao:Option Addr) (n cap:Nat) (Z:List Int),v = .slice ao n cap/\V.Src W ao n cap Z/\n <= 1048576:=by
 rcases DataW.trod_slice Tryz.underlying23 h with h0 | ⟨a,len,cap,elems,rest,n,_,hcs,hx,hb,hl,hm,hlen,hel,hsp,hns⟩
 ·have e:v = .slice none 0 0:=by simpa using h0.1
  exact ⟨none,0,0,[],e,⟨rfl,fun _=>⟨rfl,rfl⟩,fun ad h=>(by cases h)⟩,Nat.zero_le _⟩
 ·subst hx
  have e:v = .slice (some a) len cap:=by simpa using hcs
  simp only [Rows.uptoBulk] at hw;have h1:=bulk_len (elems.map (·.1));simp only [List.length_map] at h1
  have key:∀ i,i < len -> ∃ z:Int,W.cell? (a.add i)=some (.int .i64 z):=by
   intro i hi;have he:=hel i hi;obtain ⟨y,hy⟩:∃ y,elems[i]? = some y:=⟨_,List.getElem?_eq_getElem (by omega)⟩;rw [hy,cellsI,Option.bind_eq_some_iff] at he;obtain ⟨cs',hcs,hy'⟩:=he;obtain ⟨hl',-,hce⟩:=World.cells?_some hcs;obtain ⟨z,rfl,-,_⟩:=DataW.trod_int Tryz.underlying3 hy';have g0:=hce 0 (by omega);rw [add_zero,Nat.mul_one] at g0;exact ⟨z,g0⟩
  refine ⟨some a,len,cap,(List.range len).map fun i=>if h:i < len then Classical.choose (key i h) else 0,e,⟨by simp,fun h=>(by cases h),fun ad h t ht=>?_⟩,by omega⟩;obtain rfl:=Option.some.inj h
  have:((List.range len).map fun i=>if h:i < len then Classical.choose (key i h) else 0).getD t 0=Classical.choose (key t ht):=by simp [List.getD,ht]
  rw [this];exact Classical.choose_spec (key t ht)
theorem viewC {H:Type} {enc:TypeId × Value -> H} {W:World} {fuel:Nat} {v:Value} {x:DataW H × List MemPlace}
  (h:DataW.trod enc Tryz.prog W 0 (fun _=>true) true fuel 24 [v]=some x) (hw:Rows.uptoBulk x.1 <= 1048576):∃ (ao:Option Addr) (n cap:Nat) (L:List Sn),v = .slice ao n cap/\SSrc W ao n cap L/\n <= 1048576:=by
 rcases DataW.trod_slice Tryz.underlying24 h with h0 | ⟨a,len,cap,elems,rest,n,_,hcs,hx,hb,hl,hm,hlen,hel,hsp,hns⟩
 ·have e:v = .slice none 0 0:=by simpa using h0.1
  exact ⟨none,0,0,[],e,SSrc.empty _,Nat.zero_le _⟩
 ·subst hx
  have e:v = .slice (some a) len cap:=by simpa using hcs
  simp only [Rows.uptoBulk] at hw;have h1:=bulk_len (elems.map (·.1));simp only [List.length_map] at h1
  have key:∀ i,i < len -> ∃ e:Sn,SnAt W (a.add (i * 3)) e:=by
   intro i hi;have he:=hel i hi;obtain ⟨y,hy⟩:∃ y,elems[i]? = some y:=⟨_,List.getElem?_eq_getElem (by omega)⟩;rw [hy,cellsS,Option.bind_eq_some_iff] at he;obtain ⟨cs',hcs,hy'⟩:=he;obtain ⟨_,-,hce⟩:=World.cells?_some hcs;obtain ⟨e,rfl⟩:=open_span hy';have g0:=hce 0 (by omega);rw [add_zero] at g0;exact ⟨e,⟨g0,hce 1 (by omega),hce 2 (by omega)⟩⟩
  refine ⟨some a,len,cap,(List.range len).map fun i=>if h:i < len then Classical.choose (key i h) else sn0,e,⟨by simp,fun h=>(by cases h),fun ad h t ht=>?_,by omega,hl⟩,by omega⟩;obtain rfl:=Option.some.inj h
  have:((List.range len).map fun i=>if h:i < len then Classical.choose (key i h) else sn0).getD t sn0=Classical.choose (key t ht):=by simp [List.getD,ht]
  rw [this];exact Classical.choose_spec (key t ht)
theorem viewP {H:Type} {enc:TypeId × Value -> H} {W:World} {fuel:Nat} {cs:List Value} {x:DataW H × List MemPlace}
  (h:DataW.trod enc Tryz.prog W 0 (fun _=>true) true fuel 26 cs=some x) (hw:Rows.uptoBulk x.1 <= 1048576):∃ p:Pv,cs=[.slice p.vo p.vn p.vc,.slice p.co p.cn p.cc]/\PSrc W p/\p.P.cloud.length <= 1048576:=by
 obtain ⟨xs,m,_,hx,hcl,hxl,hf⟩:=DataW.trod_struct Tryz.underlying26 h;obtain ⟨v0,v1,rfl⟩:=list2 (hcl.trans cellsP);obtain ⟨y0,y1,rfl⟩:=list2 hxl;have t0:=hf 0 _ rfl;have t1:=hf 1 _ rfl;simp [cellsV,cellsC] at t0 t1;subst hx;simp only [Rows.uptoBulk,List.map_cons,List.map_nil,Rows.uptoBulkAll] at hw;obtain ⟨a0,l0,c0,Z,rfl,S0,g0⟩:=viewI t0 (by omega);obtain ⟨a1,l1,c1,L,rfl,S1,g1⟩:=viewC t1 (by omega);exact ⟨⟨a0,l0,c0,a1,l1,c1,⟨Z,L⟩⟩,rfl,⟨S0,S1,by show l0 <= _;omega⟩,by show L.length <= _;rw [S1.len];exact g1⟩
end
end Go.Proofs.YtjeilkenjdnafaaGreat
namespace Go.Proofs.YtjeilkenjdnafaaGreat.K
open Go.ChangeShapes Go.WideShapes Go.ChangeAt Go.RowKit Go.Joins

theorem own:ownKnob Tryz.prog.godebug=none:=by kernel_rfl
theorem cells28:Tryz.prog.cellsOf 57=4:=by kernel_rfl
theorem cells26:Tryz.prog.cellsOf 55=2:=by kernel_rfl
theorem cells3:Tryz.prog.cellsOf 3=1:=by kernel_rfl
theorem cells9:Tryz.prog.cellsOf 9=1:=by kernel_rfl
theorem list2 {α : Type} {l:List α} (h:l.length=2):∃ a b,l=[a,b]:=by
 match l,h with
 | [a,b],_=>exact ⟨a,b,rfl⟩
theorem list3 {α : Type} {l:List α} (h:l.length=3):∃ a b c,l=[a,b,c]:=by
 match l,h with
 | [a,b,c],_=>exact ⟨a,b,c,rfl⟩
theorem list4 {α : Type} {l:List α} (h:l.length=4):∃ a b c d,l=[a,b,c,d]:=by
 match l,h with
 | [a,b,c,d],_=>exact ⟨a,b,c,d,rfl⟩
theorem open_entry {H:Type} {enc:TypeId × Value -> H} {w:World} {base:Nat} {spare:Nat -> Bool} {held:Bool} {fuel:Nat} {cs:List Value} {x:DataW H × List MemPlace}
  (h:DataW.trod enc Tryz.prog w base spare held fuel 57 cs=some x):∃ e:En,cs=(EC e).toList/\e.sku.size <= maxLen:=by
 obtain ⟨xs,m,_,hx,hcl,hxl,hf⟩:=DataW.trod_struct Tryz.underlying57 h;obtain ⟨v0,v1,v2,v3,rfl⟩:=list4 (hcl.trans cells28);obtain ⟨y0,y1,y2,rfl⟩:=list3 hxl;have t0:=hf 0 _ rfl;have t1:=hf 1 _ rfl;have t2:=hf 2 _ rfl;simp [cells3,cells9,cells26] at t0 t1 t2;obtain ⟨xs',m',_,hx',hcl',hxl',hf'⟩:=DataW.trod_struct Tryz.underlying55 t0;obtain ⟨z0,z1,rfl⟩:=list2 hxl';have s0:=hf' 0 _ rfl;have s1:=hf' 1 _ rfl;simp [cells3] at s0 s1;obtain ⟨r,e0,-,_⟩:=DataW.trod_int Tryz.underlying3 s0;obtain ⟨n,e1,-,_⟩:=DataW.trod_int Tryz.underlying3 s1;obtain ⟨s,e2,-,w2⟩:=DataW.trod_string Tryz.underlying9 t1;obtain ⟨q,e3,-,_⟩:=DataW.trod_int Tryz.underlying3 t2;simp only [List.cons.injEq,and_true] at e0 e1 e2 e3;subst e0 e1 e2 e3;exact ⟨⟨r,n,s,q⟩,rfl,w2⟩
end Go.Proofs.YtjeilkenjdnafaaGreat.K
namespace Go.Proofs.YtjeilkenjdnafaaGreat
section
open Go.ChangeShapes Go.WideShapes Go.ChangeAt Go.RowKit Go.Joins

def RSmT (L:List Rc):Prop:=L.length <= 209715/\∀ r∈L,r.p.P.cloud.length <= 1048576
structure FcU (w:World) (f:Fc):Prop where
 ok:FcOk w f
 row:FcR f
 sm:RSmT f.rs
 an:f.an <= 1048576
theorem FcU.rn {w:World} {f:Fc} (h:FcU w f):f.rn <= 209715:=by rw [<- h.ok.rs.len];exact h.sm.1
theorem cellsRe:Tryz.prog.cellsOf 83=3:=by kernel_rfl
theorem cellsSk:Tryz.prog.cellsOf 9=1:=by kernel_rfl
theorem cellsEs:Tryz.prog.cellsOf 22=1:=by kernel_rfl
theorem cellsRs:Tryz.prog.cellsOf 27=1:=by kernel_rfl
theorem cellsFa:Tryz.prog.cellsOf 29=4:=by kernel_rfl
theorem bulk_at {H:Type}:∀ (l:List (DataW H)) (d:DataW H),d∈l -> Rows.uptoBulk d <= Rows.uptoBulkAll l
 | e :: l,d,h=>by
  simp only [Rows.uptoBulkAll];rcases List.mem_cons.1 h with rfl | h
  ·omega
  ·have:=bulk_at l d h;omega
theorem bulk_five {H:Type}:∀ (l:List (DataW H)),(∀ d∈l,5 <= Rows.uptoBulk d) -> 5 * l.length <= Rows.uptoBulkAll l
 | [],_=>by simp
 | d :: l,h=>by
  have h1:=bulk_five l (fun e he=>h e (List.mem_cons_of_mem _ he));have h2:=h d List.mem_cons_self;simp only [Rows.uptoBulkAll,List.length_cons];omega
theorem viewEu {H:Type} {enc:TypeId × Value -> H} {W:World} {fuel:Nat} {v:Value} {x:DataW H × List MemPlace}
  (h:DataW.trod enc Tryz.prog W 0 (fun _=>true) true fuel 22 [v]=some x) (hw:Rows.uptoBulk x.1 <= 1048576):∃ (ao:Option Addr) (n cap:Nat) (L:List K.En),v = .slice ao n cap/\K.ESrc W ao n cap L/\n <= 1048576:=by
 rcases DataW.trod_slice Tryz.underlying22 h with h0 | ⟨a,len,cap,elems,rest,n,_,hcs,hx,hb,hl,hm,hlen,hel,hsp,hns⟩
 ·have e:v = .slice none 0 0:=by simpa using h0.1
  exact ⟨none,0,0,[],e,⟨rfl,fun _=>⟨rfl,rfl⟩,fun ad h=>(by cases h),fun e he=>(by cases he),Nat.zero_le _⟩,Nat.zero_le _⟩
 ·subst hx
  have e:v = .slice (some a) len cap:=by simpa using hcs
  simp only [Rows.uptoBulk] at hw;have h1:=bulk_len (elems.map (·.1));simp only [List.length_map] at h1
  have key:∀ i,i < len -> ∃ e:K.En,K.EnAt W (a.add (i * 4)) e/\e.sku.size <= maxLen:=by
   intro i hi;have he:=hel i hi;obtain ⟨y,hy⟩:∃ y,elems[i]? = some y:=⟨_,List.getElem?_eq_getElem (by omega)⟩;rw [hy,K.cells28,Option.bind_eq_some_iff] at he;obtain ⟨cs',hcs,hy'⟩:=he;obtain ⟨_,-,hce⟩:=World.cells?_some hcs;obtain ⟨e,rfl,hs⟩:=K.open_entry hy';have g0:=hce 0 (by omega);rw [add_zero] at g0;exact ⟨e,⟨g0,hce 1 (by omega),hce 2 (by omega),hce 3 (by omega)⟩,hs⟩
  refine ⟨some a,len,cap,(List.range len).map fun i=>if h:i < len then Classical.choose (key i h) else K.en0,e,⟨by simp,fun h=>(by cases h),fun ad h t ht=>?_,fun e he=>?_,by omega⟩,by omega⟩
  ·obtain rfl:=Option.some.inj h
   have:((List.range len).map fun i=>if h:i < len then Classical.choose (key i h) else K.en0).getD t K.en0=Classical.choose (key t ht):=by simp [List.getD,ht]
   rw [this];exact (Classical.choose_spec (key t ht)).1
  ·simp only [List.mem_map,List.mem_range] at he;obtain ⟨i,hi,rfl⟩:=he;rw [dif_pos hi];exact (Classical.choose_spec (key i hi)).2
theorem past_bulk {H:Type} {enc:TypeId × Value -> H} {W:World} {fuel:Nat} {cs:List Value} {x:DataW H × List MemPlace}
  (h:DataW.trod enc Tryz.prog W 0 (fun _=>true) true fuel 26 cs=some x):3 <= Rows.uptoBulk x.1:=by
 obtain ⟨xs,m,_,hx,hcl,hxl,hf⟩:=DataW.trod_struct Tryz.underlying26 h;obtain ⟨y0,y1,rfl⟩:=list2 hxl;subst hx;have h0:=bulk_pos y0.1;have h1:=bulk_pos y1.1;simp only [Rows.uptoBulk,List.map_cons,List.map_nil,Rows.uptoBulkAll];omega
theorem open_recordU {H:Type} {enc:TypeId × Value -> H} {W:World} {fuel:Nat} {cs:List Value} {x:DataW H × List MemPlace}
  (h:DataW.trod enc Tryz.prog W 0 (fun _=>true) true fuel 83 cs=some x):5 <= Rows.uptoBulk x.1/\(Rows.uptoBulk x.1 <= 1048576 -> ∃ r:Rc,cs=(ReC (mkR r)).toList/\RcOk W r/\r.p.P.cloud.length <= 1048576):=by
 obtain ⟨xs,m,_,hx,hcl,hxl,hf⟩:=DataW.trod_struct Tryz.underlying83 h;obtain ⟨v0,v1,v2,rfl⟩:=list3 (hcl.trans cellsRe);obtain ⟨y0,y1,rfl⟩:=list2 hxl;have t0:=hf 0 _ rfl;have t1:=hf 1 _ rfl;simp [cellsP,cellsSk] at t0 t1;subst hx;simp only [Rows.uptoBulk,List.map_cons,List.map_nil,Rows.uptoBulkAll];have b0:=bulk_pos y0.1;have b1:=past_bulk t1;refine ⟨by omega,fun hw=>?_⟩;obtain ⟨s,e0,-,hs⟩:=DataW.trod_string Tryz.underlying9 t0;obtain ⟨p,ep,Sp,hl⟩:=viewP t1 (by omega);simp only [List.cons.injEq,and_true] at e0 ep;obtain ⟨rfl,rfl⟩:=ep;subst e0;exact ⟨⟨s,p⟩,rfl,⟨Sp,hs⟩,hl⟩
theorem viewRT {H:Type} {enc:TypeId × Value -> H} {W:World} {fuel:Nat} {v:Value} {x:DataW H × List MemPlace}
  (h:DataW.trod enc Tryz.prog W 0 (fun _=>true) true fuel 27 [v]=some x) (hw:Rows.uptoBulk x.1 <= 1048576):∃ (ao:Option Addr) (n cap:Nat) (L:List Rc),v = .slice ao n cap/\RcT W ao n cap L/\RSmT L:=by
 rcases DataW.trod_slice Tryz.underlying27 h with h0 | ⟨a,len,cap,elems,rest,n,_,hcs,hx,hb,hl,hm,hlen,hel,hsp,hns⟩
 ·have e:v = .slice none 0 0:=by simpa using h0.1
  exact ⟨none,0,0,[],e,⟨RcS.empty _,Nat.le_refl _,fun _=>rfl⟩,Nat.zero_le _,fun r hr=>by cases hr⟩
 ·subst hx
  have e:v = .slice (some a) len cap:=by simpa using hcs
  simp only [Rows.uptoBulk] at hw
  have op:∀ i (hi:i < elems.length),i < len/\∃ cs',(5 <= Rows.uptoBulk elems[i].1/\(Rows.uptoBulk elems[i].1 <= 1048576 -> ∃ r:Rc,cs'=(ReC (mkR r)).toList/\RcOk W r/\r.p.P.cloud.length <= 1048576))/\(∀ j,j < 3 -> W.cell? ((a.add (i * 3)).add j)=cs'[j]?):=by
   intro i hi
   have hi':i < len:=by omega
   have he:=hel i hi';rw [List.getElem?_eq_getElem hi,cellsRe,Option.bind_eq_some_iff] at he;obtain ⟨cs',hcs,hy'⟩:=he;obtain ⟨_,-,hce⟩:=World.cells?_some hcs;exact ⟨hi',cs',open_recordU hy',fun j hj=>hce j hj⟩
  have h5:=bulk_five (elems.map (·.1)) (fun d hd=>by
   obtain ⟨y,hy,rfl⟩:=List.mem_map.1 hd;obtain ⟨i,hi,rfl⟩:=List.getElem_of_mem hy;obtain ⟨-,_,h,-⟩:=op i hi
   exact h.1)
  simp only [List.length_map] at h5
  have key:∀ i,i < len -> ∃ r:Rc,ReAt W (a.add (i * 3)) (mkR r)/\RcOk W r/\r.p.P.cloud.length <= 1048576:=by
   intro i hi
   have hi':i < elems.length:=by omega
   obtain ⟨-,cs',h,hce⟩:=op i hi';obtain ⟨r,rfl,hr,hl2⟩:=h.2 (by have:=bulk_at (elems.map (·.1)) elems[i].1 (List.mem_map_of_mem (f:=(·.1)) (List.getElem_mem hi'));omega);have g0:=hce 0 (by omega);rw [add_zero] at g0;exact ⟨r,⟨g0,hce 1 (by omega),hce 2 (by omega)⟩,hr,hl2⟩
  refine ⟨some a,len,cap,(List.range len).map fun i=>if h:i < len then Classical.choose (key i h) else rc0,e,⟨⟨by simp,(fun h=>by cases h),fun ad h t ht=>?_,fun r hr=>?_,by omega⟩,hl,fun h=>by cases h⟩,by simp;omega,fun r hr=>?_⟩
  ·obtain rfl:=Option.some.inj h
   have:((List.range len).map fun i=>if h:i < len then Classical.choose (key i h) else rc0).getD t rc0=Classical.choose (key t ht):=by simp [List.getD,ht]
   rw [this];exact (Classical.choose_spec (key t ht)).1
  ·simp only [List.mem_map,List.mem_range] at hr;obtain ⟨i,hi,rfl⟩:=hr;rw [dif_pos hi];exact (Classical.choose_spec (key i hi)).2.1
  ·simp only [List.mem_map,List.mem_range] at hr;obtain ⟨i,hi,rfl⟩:=hr;rw [dif_pos hi];exact (Classical.choose_spec (key i hi)).2.2
theorem open_factsU {H:Type} {enc:TypeId × Value -> H} {W:World} {fuel:Nat} {cs:List Value} {x:DataW H × List MemPlace}
  (h:DataW.trod enc Tryz.prog W 0 (fun _=>true) true fuel 29 cs=some x) (hw:Rows.uptoBulk x.1 <= 1048576):∃ f:Fc,cs=(FaC (mkF f)).toList/\FcU W f:=by
 obtain ⟨xs,m,_,hx,hcl,hxl,hf⟩:=DataW.trod_struct Tryz.underlying29 h;obtain ⟨v0,v1,v2,v3,rfl⟩:=K.list4 (hcl.trans cellsFa);obtain ⟨y0,y1,y2,rfl⟩:=list3 hxl;have t0:=hf 0 _ rfl;have t1:=hf 1 _ rfl;have t2:=hf 2 _ rfl;simp [cellsP,cellsEs,cellsRs] at t0 t1 t2;subst hx;simp only [Rows.uptoBulk,List.map_cons,List.map_nil,Rows.uptoBulkAll] at hw;obtain ⟨ro,rn,rc,R,rfl,Sr,r1⟩:=viewRT t2 (by omega);obtain ⟨ao,an,ac,A,rfl,Sa,a1⟩:=viewEu t0 (by omega);obtain ⟨p,ep,Sp,-⟩:=viewP t1 (by omega);simp only [List.cons.injEq,and_true] at ep;obtain ⟨rfl,rfl⟩:=ep;exact ⟨⟨ao,an,ac,A,p,ro,rn,rc,R⟩,rfl,⟨Sa,Sp,Sr.src⟩,⟨Sr.room,Sr.nil⟩,r1,a1⟩
end
section
open Go.ChangeShapes Go.WideShapes Go.ChangeAt Go.RowKit Go.Joins
theorem cellsSw:Tryz.prog.cellsOf 31=4:=by kernel_rfl
theorem open_swotU {H:Type} {enc:TypeId × Value -> H} {W:World} {fuel:Nat} {cs:List Value} {x:DataW H × List MemPlace}
  (h:DataW.trod enc Tryz.prog W 0 (fun _=>true) true fuel 31 cs=some x) (hw:Rows.uptoBulk x.1 <= 1048576):∃ f:Fc,cs=(FaC (mkF f)).toList/\FcU W f:=by
 obtain ⟨xs,m,_,hx,hcl,hxl,hf⟩:=DataW.trod_struct Tryz.underlying31 h;obtain ⟨v0,v1,v2,v3,rfl⟩:=K.list4 (hcl.trans cellsSw);obtain ⟨y0,y1,y2,rfl⟩:=list3 hxl;have t0:=hf 0 _ rfl;have t1:=hf 1 _ rfl;have t2:=hf 2 _ rfl;simp [cellsP,cellsEs,cellsRs] at t0 t1 t2;subst hx;simp only [Rows.uptoBulk,List.map_cons,List.map_nil,Rows.uptoBulkAll] at hw;obtain ⟨ro,rn,rc,R,rfl,Sr,r1⟩:=viewRT t2 (by omega);obtain ⟨ao,an,ac,A,rfl,Sa,a1⟩:=viewEu t0 (by omega);obtain ⟨p,ep,Sp,-⟩:=viewP t1 (by omega);simp only [List.cons.injEq,and_true] at ep;obtain ⟨rfl,rfl⟩:=ep;exact ⟨⟨ao,an,ac,A,p,ro,rn,rc,R⟩,rfl,⟨Sa,Sp,Sr.src⟩,⟨Sr.room,Sr.nil⟩,r1,a1⟩
theorem FcU.b {w:World} {s:Fc} (h:FcU w s):SwB 1 w s:=⟨h.ok,h.row,by have:=h.rn;omega,by have:=h.an;omega,h.sm.2⟩
end
end Go.Proofs.YtjeilkenjdnafaaGreat
